"""Meaning, following, what is left over, rows [7], [8b1] to [8b3]."""

import unittest

from cores import NONE, WIDE, core_of, told
from kit import BIG, NO_ADDRESSES, NO_COUNTS, NO_OBJECTS, NO_PLACES, NO_REGISTERS, NO_TUPLES, NO_WORDS, Case
from worlds import put_all, set_word, words, world

from orderlycore.core import Core
from orderlycore.cycles import cycle, run
from orderlycore.errors import InvalidCore, InvalidState, InvalidTrace
from orderlycore.instructions import encoded
from orderlycore.meanings import first_unlike, follows, is_row, leftovers, meaning
from orderlycore.memory import Memory, memory_of
from orderlycore.plain import steps
from orderlycore.settings import Settings
from orderlycore.states import State, snapshot
from orderlycore.whims import Whims

FIVE, STOP = (0, 33029, 0, 1, 5, None, None), (1, 51200, 0, None, None, None, None)
HALT = ("halt",)


def begin_of(*instructions, inputs=()):
    memory = Memory()
    put_all(memory, 0, words(*instructions))
    return State(memory, list(inputs))


class Examples(Case):
    def test_example(self):
        memory = memory_of([(0, [33029, 51200])])
        begin, core = State(memory, []), Core(Settings([]), Whims([]), memory, [], [(2, 3)])
        self.same(
            [meaning(core) == begin, run(core, 12, 9), follows(core, begin), leftovers(core),
             meaning(core).devices().due(15), begin.steps],
            [True, [], True, [(0, (0, 33029, 0, 1, 5, None, None))], 3, 0],
        )
        self.same(
            [first_unlike(run(core, 100, 9), core.rows()[:1]), follows(core, begin), meaning(core).registers()[1],
             meaning(core).steps, leftovers(core), is_row((0, None, 16, None, None, None, None)),
             is_row([0, 1, 0, 1, 5, None, None])],
            [1, True, 5, 2, [], True, False],
        )


class Rows(Case):
    def test_rows(self):
        for row in (FIVE, STOP, (4095, 65535, 31, 7, 65535, 1023, 65535), (0, 0, 0, 0, 0, 0, 0), (0, None, 0) + NONE,
                    (5, None, 19) + NONE, (5, None, 17, 3, 4, None, None), (5, 9, 0, None, None, 960, 0)):
            self.same(is_row(row), True)

    def test_others(self):
        self.same([value for value in NO_TUPLES + NO_OBJECTS + [FIVE[:6], FIVE + (None,), list(FIVE)] if is_row(value)],
                  [])
        no_words = [value for value in NO_WORDS if value is not None]
        no_registers, no_places = [[value for value in values if value is not None]
                                   for values in (NO_REGISTERS, NO_PLACES)]
        cases = [(0, NO_ADDRESSES), (1, no_words), (2, NO_COUNTS + [32, 33, BIG]), (3, no_registers), (4, no_words),
                 (5, no_places), (6, no_words)]
        full = (0, 33029, 0, 1, 5, 7, 8)
        for at, values in cases:
            for value in values:
                self.same(is_row(full[:at] + (value,) + full[at + 1:]), False)
                self.same(is_row(STOP[:at] + (value,) + STOP[at + 1:]), False)

    def test_both_or_none(self):
        for row in ((0, 1, 0, 1, None, None, None), (0, 1, 0, None, 5, None, None), (0, 1, 0, None, None, 1, None),
                    (0, 1, 0, None, None, None, 1)):
            self.same(is_row(row), False)

    def test_rows_of_random_runs(self):
        for seed in range(12):
            core = Core(*world(seed))
            self.assertTrue(all(is_row(row) for row in run(core, 200, 200)))


class Unlike(Case):
    def test_where(self):
        others = [FIVE, STOP, FIVE]
        self.same([first_unlike([], []), first_unlike(others, list(others)), first_unlike(others, tuple(others))],
                  [None] * 3)
        self.same([first_unlike([], others), first_unlike(others, []), first_unlike(others, others[:2]),
                   first_unlike(others[:1], others)], [0, 0, 2, 1])
        self.same([first_unlike([STOP, STOP], others), first_unlike(others, [FIVE, FIVE, FIVE]),
                   first_unlike(others, [FIVE, STOP, STOP, STOP])], [0, 1, 2])

    def test_by_name_and_unchanged(self):
        rows, others = [FIVE, STOP], (FIVE,)
        self.same([first_unlike(rows=rows, others=others), rows, others], [1, [FIVE, STOP], (FIVE,)])

    def test_refusals(self):
        wrong = [value for value in NO_OBJECTS if value not in ([], ())] + [[FIVE, list(STOP)], [FIVE[:6]], (None,)]
        wrong += [[(0, 1, 0, 1, None, None, None)], FIVE]
        self.refused_each(InvalidTrace, "value", wrong, lambda value: first_unlike(value, [FIVE]))
        self.refused_each(InvalidTrace, "value", wrong, lambda value: first_unlike([FIVE], value))
        self.refused_in_sequence(first_unlike, ([], InvalidTrace, [1]), ([], InvalidTrace, None))


class Meaning(Case):
    def test_all_parts(self):
        core = core_of(WIDE, *set_word(1, 960), ("ld", 2, 1, 0), ("st", 2, 1, 0), ("st", 2, 0, 15), ("wrc", 2, 7), HALT,
                       inputs=[9, 8], raises=[(3, 2)])
        run(core, 99, 99)
        self.same(snapshot(meaning(core)),
                  (core.registers(), 7, [1, 0, 0, 0, 0, 0, 0, 9], True, 7, core.memory().rows(),
                   ([8], [9], 7, 0, [2])))
        self.same([meaning(core).registers()[:3], meaning(core).memory().word(15)], [[0, 960, 9], 9])

    def test_what_is_guessed_is_no_part(self):
        core = core_of(WIDE, *set_word(1, 960), ("mul", 3, 3, 3), ("ld", 2, 1, 0), ("st", 1, 0, 15), ("lim", 4, 1), HALT,
                       inputs=[9])
        before = None
        while len(core.in_flight()) < 5:
            cycle(core)
        before = snapshot(meaning(core))
        while not cycle(core):
            self.same(snapshot(meaning(core)), before)

    def test_it_changes_apart(self):
        core = core_of(WIDE, ("lim", 1, 9), HALT)
        run(core, 5, 9)
        before = told(core)
        state = meaning(core)
        steps(state, 9, [(1, 2)])
        self.same([told(core), state.halted, meaning(core).halted], [before, True, False])

    def test_plain_steps_from_a_meaning_on(self):
        for seed in range(20):
            core = Core(*world(seed)[:4], [])
            run(core, 150, 200)
            state = meaning(core)
            rows = run(core, 150, 200)
            self.same(steps(state, len(rows), []), rows)
            self.alike(state, meaning(core))


class Following(Case):
    def test_behind_each_cycle(self):
        for seed in range(12):
            settings, whims, memory, inputs, raises = world(seed)
            core, begin = Core(settings, whims, memory, inputs, raises), State(memory, inputs)
            for _ in range(60):
                cycle(core)
                self.same(follows(core, begin), True)
            run(core, 300, 300)
            self.same(follows(core, begin), True)

    def test_states_that_it_does_not_follow(self):
        program = [("lim", 1, 9), ("ld", 2, 1, 0), ("st", 1, 0, 15), HALT]
        core = core_of(WIDE, *program, inputs=[4])
        begin = begin_of(*program, inputs=[4])
        self.same(follows(core, begin), True)
        others = [begin_of(*program), begin_of(*program, inputs=[5]), begin_of(*program[:3], inputs=[4]),
                  begin_of(*program, *[("nop",)] * 9, inputs=[4])]
        other = begin.copy()
        steps(other, 1, [])
        # One that has done a step already does not have as many steps behind it.
        others.append(other)
        raised = begin.copy()
        raised.raise_line(1)
        others.append(raised)
        for cycles in (0, 3, 2, 50):
            run(core, cycles, 99)
            self.same([follows(core, begin)] + [follows(core, one) for one in others], [True] + [False] * 6)

    def test_a_state_that_differs_where_nothing_has_been_done(self):
        program = [("lim", 1, 9), HALT]
        core = core_of(WIDE, *program)
        run(core, 99, 99)
        self.same([follows(core, begin_of(*program)), follows(core, begin_of(*program, 7)), core.halted],
                  [True, False, True])

    def test_a_state_that_halts_ahead_of_it(self):
        core = core_of(WIDE, ("lim", 1, 9), HALT)
        run(core, 99, 99)
        begin = begin_of(HALT, HALT)
        self.same([follows(core, begin), begin.steps], [False, 0])

    def test_raises_since_the_last_step(self):
        for raised in (1, 3, 4, 5, 6, 30):
            core = core_of(WIDE, ("lim", 1, 9), ("lim", 1, 8), HALT, raises=[(raised, 2), (raised, 0)])
            begin = begin_of(("lim", 1, 9), ("lim", 1, 8), HALT)
            for _ in range(40):
                cycle(core)
                self.same([follows(core, begin), begin.devices().told()[4]], [True, []])
            self.same(core.devices().told()[4], [0, 2])

    def test_nothing_changes(self):
        core, begin = core_of(WIDE, ("lim", 1, 9), HALT, raises=[(0, 1)]), begin_of(("lim", 1, 9), HALT)
        run(core, 5, 9)
        before = told(core), snapshot(begin)
        self.same([follows(core=core, state=begin), leftovers(core=core), meaning(core=core).steps],
                  [True, leftovers(core), 1])
        self.same((told(core), snapshot(begin)), before)


class LeftOver(Case):
    def test_rows_of_those_that_are_done(self):
        program = [("mul", 3, 3, 3), ("lim", 1, 9), ("st", 1, 0, 15), ("bz", 3, 1), ("div", 2, 3, 3), ("jal", 7, 1),
                   ("nop",), ("ld", 4, 0, 14), 0]
        core = core_of(WIDE + [("times", 8)], *program)
        run(core, 7, 9)
        found = words(*program)
        self.same(leftovers(core), [
            (0, None), (1, (1, found[1], 0, 1, 9, None, None)), (2, (2, found[2], 0, None, None, 15, 9)), (3, None),
            (4, None), (5, (5, found[5], 0, 7, 6, None, None)), (6, (6, found[6], 0) + NONE),
            (7, (7, found[7], 0, 4, 0, None, None)), (8, (8, 0, 1) + NONE)])

    def test_those_that_have_a_cause(self):
        core = core_of(WIDE + [("times", 8)], *set_word(1, 2000), ("mul", 3, 3, 3), ("ld", 2, 1, 0), ("st", 2, 0, 0),
                       ("div", 4, 3, 5), ("div", 4, 6, 5), ("jr", 7, 1, 0))
        run(core, 8, 99)
        self.same([row for row in leftovers(core) if row[1] and row[1][2]],
                  [(3, (3, encoded(("ld", 2, 1, 0)), 7) + NONE), (6, (6, encoded(("div", 4, 6, 5)), 3) + NONE),
                   (8, (2000, None, 7) + NONE)])

    def test_loads_that_wait_for_devices_and_lone_ones(self):
        core = core_of(WIDE + [("times", 8)], *set_word(1, 960), ("mul", 3, 3, 3), ("ld", 2, 1, 0), ("add", 2, 2, 2))
        run(core, 9, 99)
        self.same(leftovers(core)[:3], [(2, None), (3, None), (4, None)])
        core = core_of(WIDE, HALT)
        run(core, 2, 99)
        self.same(leftovers(core), [(0, None)])

    def test_what_is_done_retires_as_it_was_told_unless_it_is_dropped(self):
        for seed in range(10):
            core = Core(*world(seed))
            for _ in range(150):
                before = [row for _, row in leftovers(core)]
                rows = cycle(core)
                if rows and rows[0][2] < 16:
                    for row, told_row in zip(rows, before):
                        self.assertIn(told_row, (None, row))
                for number, row in leftovers(core):
                    self.assertTrue(row is None or is_row(row))
                self.assertEqual([number for number, _ in leftovers(core)], [row[0] for row in core.in_flight()])

    def test_what_a_copy_does_changes_nothing(self):
        for seed in range(10):
            core = Core(*world(seed))
            for _ in range(40):
                before, copied = (leftovers(core), told(core)), core.copy()
                run(copied, 4, 99)
                self.assertEqual((leftovers(core), told(core)), before)
                run(core, 3, 99)

    def test_dropped_ones_leave_nothing(self):
        for seed in range(10):
            core = Core(*world(seed))
            for _ in range(200):
                before = snapshot(meaning(core))
                dropped = core.copy()
                dropped.restart(0, dropped.home)
                self.assertEqual(snapshot(meaning(dropped)), before)
                cycle(core)


class Refusals(Case):
    def test_all(self):
        core, state = core_of(WIDE, HALT), begin_of(HALT)
        wrong = NO_OBJECTS + [Core, state, Settings([])]
        for call in (meaning, leftovers, lambda value: follows(value, state)):
            self.refused_each(InvalidCore, "value", wrong, call)
        self.refused_each(InvalidState, "value", NO_OBJECTS + [State, core], lambda value: follows(core, value))
        self.refused_in_sequence(follows, (core, InvalidCore, state), (state, InvalidState, core))


if __name__ == "__main__":
    unittest.main()
