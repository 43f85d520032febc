"""The cycles of a core [8a3] to [8a8], each step at the cycle at which the document's parts bring it."""

import unittest

from cores import AT_ONCE, NONE, WIDE, core_of, cycles_of, steps_at, told
from kit import BIG, NO_COUNTS, NO_OBJECTS, Case
from worlds import BOUNDS, set_word, words

from orderlycore.core import Core
from orderlycore.cycles import cycle, run
from orderlycore.errors import InvalidCore, InvalidCycles, InvalidSteps
from orderlycore.instructions import encoded
from orderlycore.memory import memory_of
from orderlycore.pages import laid
from orderlycore.settings import Settings
from orderlycore.whims import Whims

HALT, NOP = ("halt",), ("nop",)


def lims(many):
    return [("lim", which, which + 1) for which in range(many)]


class Examples(Case):
    def test_example(self):
        core = Core(Settings([]), Whims([]), memory_of([(0, [33029, 51200])]), [], [(2, 3)])
        self.same(
            [run(core, 11, 10), core.in_flight(), run(core, 100, 10), core.clock, core.waits(), core.halted,
             core.registers()[1], core.raised()],
            [[], [(0, 0, 33029, False, 0)], [(0, 33029, 0, 1, 5, None, None), (1, 51200, 0, None, None, None, None)],
             14, [13, 1], True, 5, [(0, 3)]],
        )


class Straight(Case):
    """A row that is fetched in the cycle 0 is renamed in 1, issued in 2, finished in 3, and retires in 4."""

    def test_four_at_a_time(self):
        self.same(steps_at(core_of(WIDE, *lims(8), HALT)),
                  [(at, 4 + at // 4) for at in range(8)] + [(8, 6)])

    def test_each_part_one_at_a_time(self):
        for name in ("fetch", "issue", "retire", "stations", "queue"):
            core = core_of(WIDE + [(name, 1)], *lims(4), HALT)
            self.same(steps_at(core), [(0, 4), (1, 5), (2, 6), (3, 7), (4, 8)])

    def test_each_part_two_at_a_time(self):
        for name in ("fetch", "issue", "retire", "stations", "queue"):
            core = core_of(WIDE + [(name, 2)], *lims(4), HALT)
            self.same(steps_at(core), [(0, 4), (1, 4), (2, 5), (3, 5), (4, 6)])

    def test_what_stays_till_it_retires(self):
        # The next ones are renamed in the cycle in which the ones ahead retire.
        self.same(steps_at(core_of(WIDE + [("reorder", 2)], *lims(4), HALT)),
                  [(0, 4), (1, 4), (2, 7), (3, 7), (4, 8)])
        self.same(steps_at(core_of(WIDE + [("physical", 9)], *lims(3), HALT)), [(0, 4), (1, 7), (2, 10), (3, 11)])
        self.same(steps_at(core_of(WIDE + [("physical", 10)], *lims(3), HALT)), [(0, 4), (1, 4), (2, 7), (3, 8)])
        self.same(steps_at(core_of(WIDE + [("loads", 1)], *[("ld", 1, 2, 9)] * 3, HALT)),
                  [(0, 4), (1, 7), (2, 10), (3, 11)])
        self.same(steps_at(core_of(WIDE + [("stores", 1)], *[("st", 1, 2, 9)] * 3, HALT)),
                  [(0, 4), (1, 7), (2, 10), (3, 11)])
        self.same(steps_at(core_of(WIDE + [("stores", 2)], *[("st", 1, 2, 9)] * 3, HALT)),
                  [(0, 4), (1, 4), (2, 7), (3, 8)])

    def test_what_does_not_hang_on_room_elsewhere(self):
        # The free cell goes to the first one, the others write no register.
        some = [("lim", 4, 1), ("st", 1, 2, 9), ("bz", 3, 1), NOP]
        self.same(steps_at(core_of(WIDE + [("physical", 9), ("stores", 1)], *some, HALT)),
                  [(0, 4), (1, 4), (2, 4), (3, 4), (4, 5)])
        some = [("st", 1, 2, 9), ("ld", 1, 2, 8), ("lim", 4, 1), ("bz", 3, 1)]
        self.same(steps_at(core_of(WIDE + [("stores", 1), ("loads", 1)], *some, HALT)),
                  [(0, 4), (1, 4), (2, 4), (3, 4), (4, 5)])

    def test_the_first_row_without_room_ends_renaming(self):
        # The second load waits, and so does what comes behind it.
        core = core_of(WIDE + [("loads", 1)], ("ld", 1, 2, 9), ("ld", 1, 2, 9), ("lim", 3, 1), HALT)
        self.same(steps_at(core), [(0, 4), (1, 7), (2, 7), (3, 8)])

    def test_a_chain(self):
        self.same(steps_at(core_of(WIDE, *[("addi", 1, 1, 1)] * 4, HALT)), [(0, 4), (1, 5), (2, 6), (3, 7), (4, 8)])
        core = core_of(WIDE, *[("addi", 1, 1, 1)] * 4, HALT)
        run(core, 200, 200)
        self.same(core.registers()[1], 4)

    def test_registers_that_are_read_and_written(self):
        core = core_of(WIDE, ("lim", 1, 7), ("add", 1, 1, 1), ("lhi", 1, 3), ("mul", 1, 1, 1), ("sub", 2, 1, 1), HALT)
        run(core, 200, 200)
        self.same(core.registers()[:3], [0, (3 * 256 + 14) ** 2 % 65536, 0])

    def test_slow_ones(self):
        for many in (1, 2, 5, 8):
            self.same(steps_at(core_of(WIDE + [("times", many)], ("mul", 1, 1, 1), HALT)),
                      [(0, 3 + many), (1, 4 + many)])
        for many in (1, 2, 7, 16):
            self.same(steps_at(core_of(WIDE + [("over", many)], ("lim", 1, 1), ("div", 1, 1, 1), HALT)),
                      [(0, 4), (1, 4 + many), (2, 5 + many)])

    def test_nothing_retires_ahead_of_an_older_one(self):
        core = core_of(WIDE + [("times", 6)], ("mul", 1, 1, 1), *lims(3), HALT)
        run(core, 5, 9)
        self.same([row[3] for row in core.in_flight()], [False, True, True, True])
        self.same(steps_at(core), [(0, 9), (1, 9), (2, 9), (3, 9), (4, 10)])

    def test_waits_of_fetches(self):
        # A line of two words takes 1 + 3 + 5 cycles: it is delivered in the cycle 8; what is there takes 1.
        core = core_of(WIDE + [("wait2", 3), ("waitm", 5), ("line", 2), ("fetch", 2)], *lims(4), HALT)
        self.same(steps_at(core), [(0, 12), (1, 12), (2, 21), (3, 21), (4, 28)])

    def test_waits_of_loads(self):
        settings = WIDE + [("wait2", 3), ("waitm", 5)]
        core = core_of(settings, ("ld", 1, 7, 15), ("ld", 1, 7, 15), HALT, parts=[(64, [9])])
        # 15 stands in the second cache already, behind the fetches: 1 + 3 cycles, then 1.
        self.same(steps_at(core), [(0, 15), (1, 15), (2, 16)])
        core = core_of(settings, ("lim", 6, 64), ("ld", 1, 6, 0), ("ld", 2, 6, 1), HALT, parts=[(64, [9, 8])])
        # Fetched in 8, renamed in 9, issued in 10 and 11; 9 cycles, then 1.
        self.same(steps_at(core), [(0, 12), (1, 21), (2, 21), (3, 22)])
        self.same(core.registers()[:3], [0, 9, 8])

    def test_whims_of_waits(self):
        core = core_of(WIDE + [("whim", 4)], ("ld", 1, 7, 15), HALT, numbers=[2, 0, 0, 0, 0, 0, 0, 3])
        # The first row takes 3 cycles, the second one 1; in each cycle from 2 on up to four are fetched.
        run(core, 4, 9)
        self.same([core.in_flight(), core.clock], [[(0, 0, words(("ld", 1, 7, 15))[0], False, 0)], 4])

    def test_turns_over_at_the_last_address(self):
        core = core_of(WIDE, ("jal", 7, -1), HALT)
        self.same(steps_at(core, 4, 9), [])
        self.same([row[1:] for row in core.in_flight()],
                  [(0, words(("jal", 7, -1))[0], True, 0), (4095, None, True, 7)])


class Moves(Case):
    def test_guessed_right(self):
        self.same(steps_at(core_of(WIDE, ("bnz", 0, 3), HALT)), [(0, 4), (1, 5)])
        self.same(steps_at(core_of(WIDE, ("jal", 7, 3), HALT, HALT, NOP, HALT)), [(0, 4), (3, 4), (4, 5)])

    def test_guessed_wrong(self):
        # It is known in the cycle 3, and fetched from there on in this same cycle.
        for move in (("bz", 0, 3), ("jr", 7, 0, 3)):
            core = core_of(WIDE, move, HALT, HALT, NOP, HALT)
            self.same(steps_at(core), [(0, 4), (3, 7), (4, 8)])

    def test_what_was_guessed_leaves_nothing(self):
        core = core_of(WIDE, ("bz", 0, 8), ("lim", 1, 9), ("st", 0, 0, 7), ("ld", 1, 0, 0), *[NOP] * 4, HALT)
        run(core, 200, 200)
        self.same([core.registers(), core.memory().word(7), len(core.rows())], [[0] * 8, words(NOP)[0], 2])

    def test_numbers_come_again_behind_a_wrong_guess(self):
        core = core_of(WIDE, ("bz", 0, 4), ("lim", 1, 1), ("lim", 1, 2), ("lim", 1, 3), ("lim", 2, 4), HALT)
        run(core, 3, 9)
        self.same([row[:2] for row in core.in_flight()], [(0, 0), (1, 1), (2, 2), (3, 3), (4, 4)])
        cycle(core)
        self.same([row[:2] + row[3:] for row in core.in_flight()], [(0, 0, True, 0)])
        cycle(core)
        self.same([row[:2] for row in core.in_flight()], [(1, 4)])

    def test_the_oldest_wrong_guess_counts(self):
        core = core_of(WIDE, ("bz", 0, 4), ("bz", 0, 5), NOP, NOP, ("lim", 1, 1), HALT, ("lim", 1, 2), HALT)
        self.same(steps_at(core), [(0, 4), (4, 7), (5, 8)])

    def test_a_younger_wrong_guess_is_known_ahead_of_an_older_one(self):
        core = core_of(WIDE, ("mul", 1, 1, 1), ("bz", 1, 3), ("bz", 0, 5), NOP, ("lim", 2, 7), HALT, NOP, ("lim", 2, 8),
                       HALT)
        self.same([row[1] for row in steps_at(core)], [6, 7, 10, 11])
        self.same(core.registers()[2], 7)

    def test_branches_learn_when_they_retire(self):
        # Counted down from 5: the first two rounds are guessed wrong, and so is the end.
        core = core_of(WIDE + [("counters", 1)], ("lim", 1, 5), ("addi", 1, 1, -1), ("bnz", 1, -1), HALT)
        # The bnz of the first round is finished in 5; that of the second one is asked for there, ahead of learning in
        # 6; it is finished in 9, and the third and the fourth round are fetched there, as is learned by then.
        self.same(steps_at(core), [(0, 4), (1, 5), (2, 6), (1, 9), (2, 10), (1, 13), (2, 14), (1, 14), (2, 15), (1, 15),
                                   (2, 16), (3, 17)])

    def test_jumps_by_targets(self):
        loop = [("lim", 1, 4), ("jr", 7, 1, 0), HALT, HALT, ("jal", 2, -3)]
        core = core_of(WIDE, *loop)
        run(core, 60, 99)
        self.same([row[0] for row in core.rows()[:7]], [0, 1, 4, 1, 4, 1, 4])
        waits = core.waits()
        # Behind the first time the jump's target is known: two steps a cycle and more come of it.
        self.same(sum(waits[:3]) > 7, True)
        self.same(sum(waits[20:60]) <= 40, True)

    def test_returns(self):
        program = [("jal", 7, 4), ("lim", 1, 1), ("lim", 2, 1), HALT, ("jr", 6, 7, 0)]
        core = core_of(WIDE, *program)
        # The return is expected: all of it is fetched in the cycles 0 and 1; the jump itself waits for no one.
        self.same(steps_at(core), [(0, 4), (4, 5), (1, 5), (2, 5), (3, 6)])
        core = core_of(WIDE + [("returns", 0)], *program)
        self.same(steps_at(core), [(0, 4), (4, 5), (1, 8), (2, 8), (3, 9)])


class Memories(Case):
    def test_a_load_of_an_earlier_store_in_flight(self):
        settings = WIDE + [("wait2", 9), ("waitm", 20), ("times", 8)]
        core = core_of(settings, ("mul", 3, 3, 3), ("st", 1, 0, 9), ("ld", 2, 0, 9), HALT)
        # All is fetched in 29 and issued in 31; the store's word is told in one cycle.
        run(core, 33, 9)
        self.same([row[3] for row in core.in_flight()], [False, True, True])
        self.same(steps_at(core), [(0, 40), (1, 40), (2, 40), (3, 41)])

    def test_a_load_that_read_too_early(self):
        # The load reads in the cycle 2, the store is known in 3: the load is fetched again then.
        core = core_of(WIDE, ("lim", 1, 5), ("st", 1, 0, 9), ("ld", 2, 0, 9), HALT)
        self.same(steps_at(core), [(0, 4), (1, 5), (2, 7), (3, 8)])
        self.same(core.registers()[2], 5)

    def test_of_several_loads_the_least_that_read_too_early(self):
        program = [("lim", 1, 5), ("st", 1, 0, 15), ("ld", 3, 0, 14), ("ld", 2, 0, 15), ("ld", 4, 0, 15), HALT]
        core = core_of(WIDE, *program)
        run(core, 4, 9)
        self.same([row[:2] for row in core.in_flight()], [(0, 0), (1, 1), (2, 2)])
        self.same(steps_at(core), [(0, 4), (1, 5), (2, 5), (3, 7), (4, 7), (5, 8)])
        self.same(core.registers()[2:5], [5, 0, 5])

    def test_loads_of_other_places_stay(self):
        core = core_of(WIDE, ("lim", 1, 5), ("st", 1, 0, 9), ("ld", 2, 0, 10), HALT)
        self.same(steps_at(core), [(0, 4), (1, 5), (2, 5), (3, 6)])

    def test_stores_that_are_done_are_not_seen_till_they_retire(self):
        core = core_of(WIDE + [("times", 8)], ("mul", 3, 3, 3), ("lim", 1, 5), ("st", 1, 0, 9), HALT)
        run(core, 9, 9)
        self.same([core.memory().word(9), core.in_flight()[2][3]], [0, True])
        run(core, 9, 9)
        self.same(core.memory().word(9), 5)

    def test_stores_into_what_is_fetched(self):
        # The store retires in 4; what was fetched from the place is fetched again in 4.
        core = core_of(WIDE, ("st", 0, 0, 3), NOP, NOP, HALT)
        run(core, 9, 9)
        self.same([(row[0], row[2]) for row in core.rows()], [(0, 0), (1, 0), (2, 0), (3, 1)])
        self.same(cycles_of(core), [4, 8, 8, 8])

    def test_stores_beside_what_is_fetched(self):
        core = core_of(WIDE, ("st", 0, 0, 15), NOP, NOP, HALT)
        self.same(steps_at(core), [(0, 4), (1, 4), (2, 4), (3, 5)])

    def test_a_store_into_its_own_place(self):
        core = core_of(WIDE, ("st", 1, 0, 0), NOP, NOP, HALT)
        self.same([steps_at(core), core.memory().word(0)], [[(0, 4), (1, 4), (2, 4), (3, 5)], 0])

    def test_a_store_that_ends_retiring(self):
        # Two stores, the first one into what is fetched in the queue: the second one is fetched again.
        core = core_of(WIDE + [("reorder", 2), ("queue", 4)], ("st", 0, 0, 5), ("st", 0, 0, 14), NOP, NOP, NOP, HALT)
        self.same(steps_at(core, 9, 9)[:2], [(0, 4), (1, 8)])

    def test_a_store_into_what_the_held_row_leans_on(self):
        settings = WIDE + [("line", 1), ("waitm", 3), ("fetch", 1), ("reorder", 2)]
        core = core_of(settings, ("st", 0, 0, 2), NOP, HALT)
        # Delivered in 3 and 7; the store is renamed in 4, issued in 5, finished in 6, and retires in 7.
        self.same(steps_at(core, 20, 9)[:2], [(0, 7), (1, 11)])
        core = core_of(settings, ("st", 0, 0, 1), HALT)
        # From 4 on the row of the place 1 is held, to be delivered in 7; in 7 it is fetched anew, out of the second cache.
        run(core, 20, 3)
        self.same([(row[0], row[2]) for row in core.rows()[:2]], [(0, 0), (1, 1)])
        self.same(cycles_of(core)[:2], [7, 9])

    def test_faults_of_loads_and_stores(self):
        for name, far, cause in (("ld", 1024, 7), ("st", 1024, 7), ("ld", 970, 7), ("st", 978, 7), ("ld", 4095, 7)):
            core = core_of(WIDE, *set_word(1, far), (name, 2, 1, 0), HALT, parts=[(32, [NOP])])
            run(core, 9, 3)
            # lim, lhi, then it: issued in 4, done in 5.
            self.same([(row[0], row[2]) for row in core.rows()], [(0, 0), (1, 0), (2, cause)])
            self.same([cycles_of(core), core.controls()[1:4], core.home], [[4, 5, 6], [cause, 2, far], 0])


class Paged(Case):
    """Pages from the root 50 on; the pages 0 to 2 are the frames 0 to 2, others as told."""

    def paged(self, settings, rows, *instructions, numbers=(), status=17, parts=()):
        """A core that has come, in supervisor's instructions, to paged controls, and goes on at the address 8."""
        setup = [("lim", 1, 50), ("wrc", 1, 5), ("lim", 1, status), ("wrc", 1, 0)]
        core = core_of(settings, *setup, ("jal", 7, 4), NOP, NOP, NOP, *instructions, numbers=numbers, parts=parts)
        memory = core.memory()
        laid(memory, 50, [51, 52], [(page, page, 3) for page in range(3)] + rows)
        core = Core(core.settings(), Whims(numbers), memory, [], [])
        run(core, 500, 4)
        return core

    def test_cycles_of_pages_that_are_kept_and_that_are_not(self):
        settings = WIDE + [("wait2", 1), ("waitm", 4)]
        core = self.paged(settings, [(20, 10, 3)], *set_word(2, 320), ("ld", 3, 2, 0), ("ld", 3, 2, 1), HALT)
        begin = cycles_of(core)[3]
        # Fetching reads the root's table and the second one, 6 cycles each, and the word, 1: jal and the rows from 8 to
        # 10 are delivered 12 cycles on, renamed in 13; lim is issued in 14, lhi in 15, both loads in 16. The first one
        # reads the root's table in 1, another second table in 6, its word in 6; the second one its word in 1.
        run(core, 99, 99)
        self.same([(row[0], at - begin) for row, at in zip(core.rows(), cycles_of(core))][4:],
                  [(4, 16), (8, 16), (9, 17), (10, 30), (11, 30), (12, 31)])

    def test_cycles_of_stores_and_of_faults(self):
        settings = WIDE + [("wait2", 1), ("waitm", 4)]
        for one, flags, at, cause in ((("st", 3, 2, 0), 3, 25, 0), (("ld", 3, 2, 0), 0, 25, 5),
                                      (("st", 3, 2, 0), 0, 25, 6)):
            core = self.paged(settings, [(20, 10, flags)], *set_word(2, 320), one, HALT, status=16)
            begin = cycles_of(core)[3]
            # As above, but it runs 1 + 7 cycles, and retires in the next one.
            run(core, 99, 4)
            self.same([core.rows()[-1][0], core.rows()[-1][2], cycles_of(core)[-1] - begin], [10, cause, at])

    def test_a_buffer_of_one_entry(self):
        # Each load lets the entry of the code's page go, and the other way round.
        program = set_word(2, 320) + [("ld", 3, 2, 0), NOP, NOP, NOP, NOP, NOP, NOP, NOP, HALT]
        few = self.paged(WIDE + [("buffer", 1)], [(20, 10, 3)], *program)
        many = self.paged(WIDE + [("buffer", 2)], [(20, 10, 3)], *program)
        for core in (few, many):
            run(core, 99, 99)
        self.same([few.rows() == many.rows(), few.clock > many.clock], [True, True])

    def test_rights(self):
        for status, flags, name, cause in ((16, 0, "ld", 5), (16, 2, "st", 6), (16, 1, "st", 6), (17, 1, "st", 6),
                                           (16, 3, "st", 0), (17, 0, "ld", 0), (16, 1, "ld", 0)):
            core = self.paged(WIDE, [(20, 10, flags)], *set_word(2, 323), (name, 3, 2, 1), status=status)
            run(core, 99, 4)
            self.same(core.rows()[7][:3], (10, encoded((name, 3, 2, 1)), cause))
            if cause:
                self.same([core.controls()[1:4], core.home], [[cause, 10, 324], 0])

    def test_fetches_that_fail(self):
        # The page 3 is not mapped, 4 leads to devices, and for 32 there is no second table.
        for near, cause in ((48, 4), (64, 7), (512, 4)):
            core = self.paged(WIDE, [(4, 60, 3)], *set_word(2, near), ("jr", 7, 2, 5))
            run(core, 99, 5)
            self.same(core.rows()[7:9], [(10, encoded(("jr", 7, 2, 5)), 0, 7, 11, None, None),
                                         (near + 5, None, cause) + NONE])
            self.same(core.controls()[1:4], [cause, near + 5, near + 5])

    def test_stores_into_tables_on_which_a_later_one_leans(self):
        # The second entry of the page 21 is written while the load behind has read by what it was.
        for settings in (WIDE, WIDE + [("wait2", 2), ("waitm", 3)]):
            # With the product the store comes late: the load is done by then.
            for slow in ([], [("lim", 6, 1), ("mul", 3, 3, 6)]):
                core = self.paged(
                    settings + [("times", 8)], [(21, 10, 3), (22, 52, 3)], *set_word(2, 352 + 5),
                    *set_word(3, 32768 + 11), *set_word(4, 336), *slow, ("st", 3, 2, 0), ("ld", 5, 4, 0), HALT,
                    parts=[(160, [7]), (176, [8])])
                # A copy leans on what the first one leans on.
                copied = core.copy()
                while not copied.halted:
                    cycle(copied)
                    copied = copied.copy()
                run(core, 500, 500)
                self.same([core.halted, core.registers()[5], told(copied)], [True, 8, told(core)])

    def test_only_wrc_lets_the_buffer_go(self):
        # Behind it the page is asked for again: two entries and the word take 3 cycles, else the word takes 1.
        go_on = [("lim", 1, 13), ("wrc", 1, 4), ("wrc", 1, 2)]
        for one, wait in ((("wrc", 1, 7), 4), (("rdc", 1, 7), 2), (("sys", 0), 2), (("ret",), 2)):
            core = self.paged(WIDE, [], *go_on, one, NOP if one[0] in ("sys", "ret") else HALT, HALT, status=21)
            run(core, 99, 99)
            self.same([core.halted, core.waits()[-1], core.rows()[-2][1]], [True, wait, encoded(one)])

    def test_a_wrc_that_traps_does_not(self):
        core = self.paged(WIDE, [], ("lim", 1, 15), ("wrc", 1, 4), ("lim", 1, 16), ("wrc", 1, 0), ("wrc", 1, 7), NOP,
                          NOP, HALT)
        run(core, 99, 99)
        self.same([core.rows()[-2][2], core.rows()[-1][0], core.waits()[-1]], [2, 15, 2])

    def test_wrc_of_the_root_lets_the_buffer_go(self):
        memory = core_of(WIDE, ("lim", 1, 50), ("wrc", 1, 5), ("lim", 1, 17), ("wrc", 1, 0), *set_word(2, 320),
                         ("ld", 3, 2, 0), ("lim", 1, 53), ("wrc", 1, 5), ("ld", 4, 2, 0), HALT,
                         parts=[(160, [7]), (176, [8])]).memory()
        laid(memory, 50, [51, 52], [(0, 0, 3), (20, 10, 3)])
        laid(memory, 53, [54, 55], [(0, 0, 3), (20, 11, 3)])
        core = Core(Settings(list(dict(WIDE).items())), Whims([]), memory, [], [])
        run(core, 500, 500)
        self.same([core.halted, core.registers()[3:5]], [True, [7, 8]])


class Alone(Case):
    def test_they_are_renamed_when_orders_are_empty(self):
        # rdc is fetched in 0, and comes into flight when lim retires in 4; behind it the next is fetched in 5.
        core = core_of(WIDE, ("lim", 1, 9), ("rdc", 2, 0), ("add", 3, 1, 2), HALT)
        run(core, 4, 9)
        self.same([row[1] for row in core.in_flight()], [0])
        cycle(core)
        self.same([row[:2] for row in core.in_flight()], [(1, 1)])
        self.same(steps_at(core), [(0, 4), (1, 5), (2, 9), (3, 10)])
        self.same(core.registers()[:4], [0, 9, 1, 10])

    def test_their_numbers_come_again(self):
        core = core_of(WIDE, ("rdc", 2, 0), ("rdc", 3, 0), NOP, HALT)
        seen = []
        for _ in range(12):
            cycle(core)
            seen += [row[:2] for row in core.in_flight()]
        self.same(sorted(set(seen)), [(0, 0), (0, 1), (0, 2), (1, 3)])

    def test_one_ends_retiring(self):
        self.same(steps_at(core_of(WIDE, ("rdc", 2, 0), ("rdc", 3, 0), HALT)), [(0, 2), (1, 4), (2, 6)])
        # The line is up when interrupts are let in, but it is taken in the next cycle only.
        core = core_of(WIDE, ("lim", 1, 15), ("wrc", 1, 6), ("lim", 1, 3), ("wrc", 1, 0), HALT, raises=[(0, 1)])
        run(core, 99, 5)
        self.same([core.rows()[-1], core.waits()[-2:]], [(4, None, 17) + NONE, [1, 1]])

    def test_wrc_and_rdc(self):
        for which in range(1, 8):
            core = core_of(WIDE, *set_word(1, 4660 + which), ("wrc", 1, which), ("rdc", 2, which), HALT)
            run(core, 99, 99)
            self.same([core.controls()[which], core.registers()[2]], [4660 + which] * 2)

    def test_sys_and_ret(self):
        core = core_of(WIDE, ("lim", 1, 32), ("wrc", 1, 4), ("sys", 5), ("lim", 2, 1), HALT, parts=[(32, [("ret",)])])
        self.same(steps_at(core), [(0, 4), (1, 5), (2, 7), (32, 9), (3, 13), (4, 14)])
        self.same([(row[0], row[2]) for row in core.rows()], [(0, 0), (1, 0), (2, 8), (32, 0), (3, 0), (4, 0)])

    def test_the_user_may_not(self):
        for one in (("rdc", 2, 0), ("wrc", 2, 1), ("ret",), HALT):
            core = core_of(WIDE, ("lim", 1, 32), ("wrc", 1, 4), ("wrc", 2, 0), one, parts=[(32, [HALT])])
            run(core, 99, 99)
            self.same([(row[0], row[2]) for row in core.rows()], [(0, 0), (1, 0), (2, 0), (3, 2), (32, 0)])
            self.same([core.controls()[:4], core.registers()[2]], [[1, 2, 3, 0], 0])

    def test_halt(self):
        core = core_of(WIDE, HALT, ("lim", 1, 1))
        self.same([steps_at(core), core.clock, core.home, core.halted], [[(0, 2)], 3, 1, True])
        self.same([core.in_flight(), core.registers()], [[], [0] * 8])


class BadOnes(Case):
    def test_bad_words(self):
        # Fetched in 0, renamed and done in 1, retired in 2; the entry is fetched in 2.
        core = core_of(WIDE, 0)
        self.same(steps_at(core, 7, 9), [(0, 2), (0, 4), (0, 6)])
        core = core_of(WIDE, NOP, 65535, NOP)
        run(core, 2, 9)
        self.same(core.in_flight(), [(0, 0, words(NOP)[0], False, 0), (1, 1, 65535, True, 1)])
        run(core, 9, 2)
        self.same([core.rows()[1], core.controls()[:4]], [(1, 65535, 1) + NONE, [5, 1, 1, 0]])

    def test_they_need_no_more_than_a_place_in_orders(self):
        settings = WIDE + [("stations", 1), ("times", 8), ("physical", 9)]
        # The product runs, the store waits for it in the one station, and no cell is free.
        core = core_of(settings, ("mul", 1, 1, 1), ("st", 1, 0, 9), 0)
        run(core, 4, 9)
        self.same([row[3:] for row in core.in_flight()], [(False, 0), (False, 0), (True, 1)])
        core = core_of(WIDE + [("reorder", 2), ("times", 8)], ("mul", 1, 1, 1), NOP, 0)
        run(core, 8, 9)
        self.same([row[1] for row in core.in_flight()], [0, 1])

    def test_divisions_by_nought(self):
        core = core_of(WIDE + [("over", 16)], ("lim", 1, 1), ("div", 2, 1, 0), ("addi", 2, 2, 1), HALT)
        run(core, 3, 9)
        self.same([row[3:] for row in core.in_flight()], [(False, 0), (False, 0), (False, 0)])
        # It waits for lim, too: issued in 3, done in 4.
        run(core, 2, 9)
        self.same([row[3:] for row in core.in_flight()], [(True, 3), (False, 0)])
        run(core, 1, 9)
        self.same([core.rows()[1], core.controls()[:4], core.in_flight()],
                  [(1, encoded(("div", 2, 1, 0)), 3) + NONE, [5, 3, 1, 0], []])

    def test_a_trap_drops_what_is_behind_it(self):
        core = core_of(WIDE, ("div", 1, 1, 1), ("lim", 2, 9), ("st", 2, 0, 8), ("lim", 3, 9), parts=[(32, [HALT])])
        run(core, 4, 9)
        self.same(len(core.in_flight()), 5)
        cycle(core)
        self.same([core.registers(), core.steps, core.in_flight()], [[0] * 8, 1, []])


class Devices(Case):
    def test_a_load_waits_till_it_is_the_oldest(self):
        core = core_of(WIDE + [("times", 8)], *set_word(1, 960), ("mul", 3, 3, 3), ("ld", 2, 1, 0), ("add", 2, 2, 2),
                       HALT, inputs=[7, 9])
        run(core, 10, 9)
        # lim, lhi have retired; the mul runs from 2 to 10, the load waits and is not done.
        self.same([[row[1:2] + row[3:4] for row in core.in_flight()], core.devices().left()],
                  [[(2, False), (3, False), (4, False)], [7, 9]])
        # The load is read and retires in 11, add is issued in 11.
        self.same(steps_at(core), [(0, 4), (1, 5), (2, 11), (3, 11), (4, 13), (5, 14)])
        self.same([core.registers()[2], core.devices().left()], [14, [9]])

    def test_a_guessed_load_reads_nothing(self):
        core = core_of(WIDE + [("times", 8)], *set_word(1, 960), ("mul", 3, 3, 3), ("bz", 3, 2), ("ld", 2, 1, 0), HALT,
                       inputs=[7, 9])
        run(core, 99, 99)
        self.same([core.registers()[2], core.devices().left(), core.halted], [0, [7, 9], True])

    def test_stores_write_when_they_retire(self):
        core = core_of(WIDE + [("times", 8)], *set_word(1, 960), ("mul", 3, 3, 3), ("st", 1, 1, 0), ("st", 3, 1, 0), HALT)
        run(core, 10, 9)
        self.same(core.devices().outputs(), [])
        run(core, 99, 99)
        self.same(core.devices().outputs(), [960, 0])

    def test_what_is_behind_a_store_into_a_device_stays(self):
        core = core_of(WIDE, *set_word(1, 960), ("st", 1, 1, 0), NOP, NOP, NOP, HALT)
        self.same(steps_at(core), [(0, 4), (1, 5), (2, 6), (3, 6), (4, 6), (5, 6), (6, 7)])

    def test_loads_of_devices_are_told_by_no_store(self):
        core = core_of(WIDE, *set_word(1, 977), ("st", 1, 1, 0), ("ld", 2, 1, 0), ("ld", 3, 1, -1), HALT)
        run(core, 99, 99)
        self.same(core.registers()[2:4], [977, 4])

    def test_a_place_that_is_not_there(self):
        core = core_of(WIDE + [("times", 8)], *set_word(1, 962), ("mul", 3, 3, 3), ("ld", 2, 1, 0), ("st", 2, 1, 0),
                       HALT)
        run(core, 9, 9)
        self.same([row[1:2] + row[3:] for row in core.in_flight()],
                  [(2, False, 0), (3, True, 7), (4, False, 0)])


class Interrupts(Case):
    """Interrupts are on from the address 4 on, where there is a loop; the entry is 40."""

    def ready(self, settings=WIDE, raises=(), mask=15, behind=None):
        setup = [("lim", 1, 40), ("wrc", 1, 4), ("lim", 1, mask), ("wrc", 1, 6), ("lim", 1, 3), ("wrc", 1, 0)]
        behind = behind or [("addi", 2, 2, 1), ("jal", 3, -1)]
        return core_of(settings, *setup, *behind, raises=raises, parts=[(40, [("ret",)])])

    def test_while_much_is_in_flight(self):
        core = self.ready(WIDE + [("times", 8)], [(26, 2)], behind=[("mul", 2, 2, 2)] + [("addi", 4, 4, 1)] * 9 + [HALT])
        run(core, 26, 99)
        self.same([core.steps, core.home, len(core.in_flight()) > 4], [6, 6, True])
        rows = cycle(core)
        self.same([rows, core.home, core.in_flight(), core.controls()[:4]], [[(6, None, 18) + NONE], 40, [], [13, 18, 6, 0]])
        self.same([core.raised(), core.devices().told()[4]], [[(6, 2)], []])
        run(core, 200, 200)
        self.same([core.registers()[4], core.halted], [9, True])

    def test_an_interrupt_ends_retiring(self):
        core = self.ready(raises=[(40, 0), (40, 3), (41, 1)])
        run(core, 60, 99)
        rows = dict(zip(cycles_of(core), core.rows()))
        self.same([rows[40][2], rows[40][1]], [16, None])
        # The handler is fetched in 40, renamed in 41, done in 42; then the next line is taken in 43.
        self.same([[cycle, row[2]] for row, cycle in zip(core.rows(), cycles_of(core)) if 40 <= cycle <= 46],
                  [[40, 16], [42, 0], [43, 17], [45, 0], [46, 19]])
        self.same(core.raised(), [(core.raised()[0][0], 0), (core.raised()[0][0], 3), (core.raised()[2][0], 1)])

    def test_lines_beyond_the_mask_and_while_off(self):
        core = self.ready(raises=[(1, 2), (40, 0), (50, 1)], mask=2)
        run(core, 80, 300)
        self.same([(row[2], row[0] < 40) for row in core.rows() if row[2]], [(17, True)])
        self.same(core.devices().told()[4], [0, 2])
        self.same(core.raised()[0], (0, 2))

    def test_the_timer(self):
        # The step 25 is the first one at which the timer's line is up.
        setup = set_word(1, 977) + [("lim", 2, 25), ("st", 2, 1, 0)]
        core = self.ready(behind=setup + [("addi", 2, 2, 1), ("jal", 3, -1)])
        run(core, 90, 60)
        self.same([number for number, row in enumerate(core.rows()) if row[2]], [25])
        self.same([core.rows()[25][2], core.raised()], [16, []])

    def test_within_a_cycle_the_timer_counts_at_once(self):
        setup = set_word(1, 977) + [("lim", 2, 15), ("st", 2, 1, 0)]
        core = self.ready(behind=setup + [NOP] * 20)
        run(core, 90, 60)
        at = [number for number, row in enumerate(core.rows()) if row[2]][0]
        self.same([at, core.rows()[15][2]], [15, 16])

    def test_an_interrupt_ahead_of_a_fault(self):
        core = self.ready(raises=[(20, 1)], behind=[("mul", 2, 2, 2), ("div", 5, 5, 5), HALT])
        run(core, 60, 10)
        causes = [row[2] for row in core.rows()]
        self.same([cause for cause in causes if cause][:2], [17, 3])

    def test_a_trap_out_of_a_handler(self):
        core = core_of(WIDE, ("lim", 1, 40), ("wrc", 1, 4), ("lim", 1, 15), ("wrc", 1, 6), ("lim", 1, 3), ("wrc", 1, 0),
                       ("jal", 3, 0), raises=[(40, 1)], parts=[(40, [("sys", 1)])])
        run(core, 60, 99)
        causes = [row[2] for row in core.rows() if row[2]]
        self.same([causes[:3], core.controls()[:4]], [[17, 8, 8], [5, 8, 41, 0]])


class Raising(Case):
    def test_in_their_cycles(self):
        core = core_of(WIDE, ("jal", 1, 0), raises=[(3, 2), (0, 1), (3, 0), (9, 2), (3, 2), (200, 3)])
        seen = []
        for _ in range(11):
            cycle(core)
            seen.append((core.steps, core.raised(), core.devices().told()[4]))
        steps = [row[0] for row in seen]
        first, third = [(0, 1)], [(0, 1), (0, 2), (0, 0), (0, 2)]
        self.same([row[1] for row in seen[:9]], [first] * 3 + [third] * 6)
        self.same(seen[9][1], third + [(steps[8], 2)])
        self.same([row[2] for row in seen], [[1]] * 3 + [[0, 1, 2]] * 8)

    def test_ahead_of_the_steps_of_their_cycle(self):
        core = core_of(WIDE, *[NOP] * 8, HALT, raises=[(4, 1), (5, 2)])
        run(core, 99, 99)
        self.same([core.raised(), cycles_of(core)[:5]], [[(0, 1), (4, 2)], [4, 4, 4, 4, 5]])

    def test_halted_cores_raise_and_count_the_clock(self):
        core = core_of(WIDE, HALT, raises=[(2, 1), (3, 0), (5, 3), (4, 0)])
        run(core, 99, 99)
        self.same([core.clock, core.halted, core.raised()], [3, True, [(0, 1)]])
        for _ in range(4):
            self.same(cycle(core), [])
        self.same([core.clock, core.raised(), core.devices().told()],
                  [7, [(0, 1), (1, 0), (1, 0), (1, 3)], ([], [], 1, 0, [0, 1, 3])])
        self.same([core.rows(), core.home, core.in_flight()], [[(0, 51200, 0) + NONE], 1, []])

    def test_halted_cores_take_no_interrupts(self):
        core = core_of(WIDE, ("lim", 1, 15), ("wrc", 1, 6), ("lim", 1, 3), ("wrc", 1, 0), HALT, raises=[(40, 1)])
        run(core, 99, 99)
        self.same([core.halted, core.clock < 40, core.controls()[0]], [True, True, 3])
        before = core.rows(), core.controls(), core.home
        while core.clock < 50:
            self.same(cycle(core), [])
        self.same([(core.rows(), core.controls(), core.home), core.devices().told()[4]], [before, [1]])

    def test_in_the_cycle_in_which_it_halts_nothing_more_is_done(self):
        core = core_of(AT_ONCE + [("twist", 1)], HALT, NOP, numbers=[0] * 50)
        run(core, 2, 9)
        taken = core.front.whims.taken
        run(core, 9, 9)
        self.same([core.front.whims.taken, core.front.fetcher.rows(), core.halted], [taken, [], True])


class Choosing(Case):
    """With the setting twist 1, and four rows to issue of which the first one is the oldest of all."""

    def issued(self, numbers, issue=1, first=("mul", 5, 5, 5)):
        settings = WIDE + [("twist", 1), ("issue", issue), ("times", 8), ("queue", 4)]
        # Each fetched row takes two whims: in the cycle 0 eight, in the cycle 1 (four are renamed) eight more.
        core = core_of(settings, first, *lims(3), *[NOP] * 20, numbers=[0] * 16 + numbers)
        run(core, 4, 9)
        return [row[0] for row in core.in_flight() if row[3]], core

    def test_the_oldest_of_all_takes_no_whim(self):
        self.same(self.issued([3, 3, 3])[0], [])

    def test_others_by_a_whim(self):
        for whim, number in ((0, 1), (1, 2), (2, 3), (3, 1), (1000000, 2)):
            self.same(self.issued([whim], 2)[0], [number])
        for whims, numbers in (([0, 0], [1, 2]), ([2, 1], [2, 3]), ([1, 1], [2, 3]), ([1, 0], [1, 2]), ([2, 0], [1, 3])):
            self.same(self.issued(whims, 3)[0], numbers)

    def test_without_twist_the_oldest_ones(self):
        core = core_of(WIDE + [("issue", 3), ("times", 8)], ("mul", 5, 5, 5), *lims(3), numbers=[2, 1, 3])
        run(core, 4, 9)
        self.same([row[0] for row in core.in_flight() if row[3]][:2], [1, 2])

    def test_rows_that_wait_are_not_among_them(self):
        settings = WIDE + [("twist", 1), ("issue", 2), ("times", 8), ("queue", 4)]
        core = core_of(settings, ("mul", 5, 5, 5), ("add", 1, 5, 5), ("lim", 2, 1), ("lim", 3, 1), *[NOP] * 20,
                       numbers=[0] * 16 + [1])
        run(core, 4, 9)
        self.same([row[0] for row in core.in_flight() if row[3]], [3])


class Running(Case):
    def test_cycle_tells_the_rows_of_its_steps(self):
        core = core_of(WIDE, *lims(5), HALT)
        rows = [cycle(core) for _ in range(8)]
        self.same([len(one) for one in rows], [0, 0, 0, 0, 4, 1, 1, 0])
        self.same([row for one in rows for row in one], core.rows())

    def test_runs_of_so_many_cycles(self):
        core = core_of(WIDE, *lims(5), ("jal", 1, 0))
        self.same([run(core, 0, 9), core.clock], [[], 0])
        self.same([len(run(core, 4, 9)), core.clock, len(run(core, 1, 9)), core.clock], [0, 4, 4, 5])

    def test_runs_of_so_many_steps_and_perhaps_more(self):
        for steps, many, clock in ((0, 0, 0), (1, 4, 5), (4, 4, 5), (5, 8, 6)):
            core = core_of(WIDE, *lims(5), ("jal", 1, 0))
            self.same([len(run(core, 99, steps)), core.clock], [many, clock])
        self.same([len(run(core, 99, 1)), core.steps], [4, 12])

    def test_a_halted_core_does_no_more_cycles_in_a_run(self):
        core = core_of(WIDE, HALT)
        self.same([len(run(core, 99, 99)), core.clock, run(core, 99, 99), core.clock], [1, 3, [], 3])

    def test_the_greatest_run(self):
        core = core_of(WIDE, HALT)
        self.same(len(run(core, 100000, 100000)), 1)

    def test_cut_into_cycles(self):
        program = [("lim", 1, 9), ("addi", 2, 2, 3), ("st", 2, 1, 15), ("addi", 1, 1, -1), ("bnz", 1, -3), HALT]
        whole = core_of([], *program, raises=[(5, 1), (70, 2)], inputs=[1])
        run(whole, 300, 300)
        for parts in ([1] * 300, [7] * 60, [0, 30, 100, 300]):
            core = core_of([], *program, raises=[(5, 1), (70, 2)], inputs=[1])
            rows = []
            for many in parts:
                rows += run(core, many, 300)
            self.same([rows, told(core)], [whole.rows(), told(whole)])

    def test_by_name(self):
        core = core_of(WIDE, *lims(5), HALT)
        self.same([cycle(core=core), run(core=core, cycles=2, steps=1), core.clock], [[], [], 3])

    def test_what_is_returned_is_new(self):
        core = core_of(WIDE, *lims(4), HALT)
        run(core, 4, 9)
        cycle(core).clear()
        run(core, 99, 99).clear()
        self.same(len(core.rows()), 5)


class Refusals(Case):
    def test_all(self):
        core = core_of(WIDE, *lims(4), HALT)
        run(core, 3, 9)
        before = told(core)
        wrong = NO_OBJECTS + [Core, Settings([]), Whims([])]
        self.refused_each(InvalidCore, "value", wrong, cycle)
        self.refused_each(InvalidCore, "value", wrong, lambda value: run(value, 1, 1))
        self.refused_each(InvalidCycles, "value", NO_COUNTS + [100001, BIG], lambda value: run(core, value, 1))
        self.refused_each(InvalidSteps, "value", NO_COUNTS + [100001, BIG], lambda value: run(core, 1, value))
        self.refused_in_sequence(run, (core, InvalidCore, None), (1, InvalidCycles, -1), (1, InvalidSteps, True))
        self.same(told(core), before)

    def test_there_is_a_bound_for_each_setting(self):
        self.assertEqual(sorted(BOUNDS), [name for name, _ in Settings([]).told()])


if __name__ == "__main__":
    unittest.main()
