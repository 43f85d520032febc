"""What is fetched, a fetcher, one cycle [6a6] to [6a8]."""

import random
import unittest

from kit import NO_ADDRESSES, NO_OBJECTS, NO_PLACES, Case
from orderlycore.buffers import Buffer
from orderlycore.errors import InvalidAddress, InvalidPlace, InvalidSettings, InvalidWhims, NothingFetched
from orderlycore.fetches import Fetcher
from orderlycore.hierarchy import Hierarchy
from orderlycore.instructions import decoded, encoded, sort_of
from orderlycore.memory import Memory, memory_of
from orderlycore.pages import laid, page_entry
from orderlycore.predictors import Predictor
from orderlycore.settings import Settings
from orderlycore.walker import asked
from orderlycore.whims import Whims

STRAIGHT, USER, SUPERVISOR = [1, 0, 0, 0, 0, 2, 0, 0], [16, 0, 0, 0, 0, 2, 0, 0], [17, 0, 0, 0, 0, 2, 0, 0]
NOP = encoded(("nop",))
AT_ONCE = [("wait2", 0), ("waitm", 0), ("line", 1)]


def memory_with(*instructions, at=0, rows=()):
    """A memory with instructions at a place, no operations elsewhere, and tables laid from the root 2 on."""
    memory = Memory()
    for place in range(960):
        memory.put(place, NOP)
    if rows:
        laid(memory, 2, [3, 4], rows)
    for place, one in enumerate(instructions, start=at):
        memory.put(place, one if isinstance(one, int) else encoded(one))
    return memory


class Front:
    """A fetcher with all that its cycles want, by one Whims."""

    def __init__(self, settings, memory, controls=STRAIGHT, numbers=()):
        self.settings, self.whims, self.controls = Settings(settings), Whims(numbers), controls
        self.fetcher = Fetcher(self.settings, self.whims)
        self.predictor = Predictor(self.settings, self.whims)
        self.buffer = Buffer(self.settings.value("buffer"))
        self.hierarchy = Hierarchy(self.settings, memory, self.whims)

    def cycle(self):
        return self.fetcher.cycle(self.predictor, self.buffer, self.hierarchy, self.controls)

    def cycles(self, many):
        """After each of so many cycles how many rows are in the queue, and the wait of the held one."""
        told = []
        for _ in range(many):
            self.cycle()
            held = self.fetcher.held_row()
            told.append((len(self.fetcher.rows()), None if held is None else held[5]))
        return told

    def told(self):
        fetcher = self.fetcher
        return fetcher.address, fetcher.stopped, fetcher.rows(), fetcher.held_row()


class Examples(Case):
    def test_example(self):
        guess = Predictor(Settings([("returns", 1)]), Whims([]))
        few = Settings([("line", 2), ("wait2", 1), ("waitm", 3)])
        store = memory_of([(0, [encoded(("addi", 1, 0, 5)), encoded(("jal", 7, 30))])])
        fetcher, ways, below = Fetcher(few, Whims([])), Buffer(4), Hierarchy(few, store, Whims([]))
        self.same(
            [[fetcher.cycle(guess, ways, below, [1, 0, 0, 0, 0, 0, 0, 0]), len(fetcher.rows()), fetcher.address]
             for _ in range(5)],
            [[None, 0, 0], [None, 0, 0], [None, 0, 0], [None, 0, 0], [None, 2, 31]],
        )


class AtFirst(Case):
    def test_told(self):
        front = Front([], Memory())
        self.same(front.told(), (0, False, [], None))
        self.same([front.fetcher.leans_on(0), front.fetcher.stopped, front.fetcher.address], [False, False, 0])


class Cycles(Case):
    def test_rows_that_take_one_cycle(self):
        for fetch in (1, 2, 3, 4):
            front = Front(AT_ONCE + [("fetch", fetch), ("queue", 8)], memory_with())
            self.same([many for many, _ in front.cycles(10)], [min(fetch * turn, 8) for turn in range(1, 11)])
            self.same([row[0] for row in front.fetcher.rows()], list(range(8)))

    def test_a_row_that_takes_c_cycles_is_delivered_so_many_less_one_later(self):
        for wait2, waitm in ((0, 1), (1, 0), (2, 6), (9, 20)):
            c = 1 + wait2 + waitm
            front = Front([("line", 1), ("wait2", wait2), ("waitm", waitm), ("fetch", 1), ("queue", 8)], memory_with())
            counts = [many for many, _ in front.cycles(3 * c + 2)]
            self.same(counts, [min(turn // c, 8) for turn in range(1, 3 * c + 3)])

    def test_behind_a_delivered_row_the_next_one_is_made_in_the_same_cycle(self):
        front = Front([("line", 1), ("wait2", 0), ("waitm", 2), ("fetch", 2), ("queue", 8)], memory_with())
        self.same(front.cycles(7), [(0, 2), (0, 1), (1, 2), (1, 1), (2, 2), (2, 1), (3, 2)])

    def test_held_rows_are_told_with_their_waits(self):
        front = Front([("line", 1), ("fetch", 4)], memory_with(("bnz", 1, 3)))
        word = encoded(("bnz", 1, 3))
        for wait in range(8, 0, -1):
            front.cycle()
            self.same(front.told(), (0, False, [], (0, word, 0, 0, [0], wait)))
        front.cycle()
        self.same(front.told(), (1, False, [(0, word, 0, 0, 1, [0])], (1, NOP, 0, 0, [1], 8)))

    def test_a_queue_of_one_row(self):
        front = Front(AT_ONCE + [("queue", 1), ("fetch", 4)], memory_with())
        self.same([front.cycles(2), front.fetcher.address], [[(1, None), (1, None)], 1])
        self.same([front.fetcher.pulled(), front.cycles(1), front.told()],
                  [(0, NOP, 0, 0, 1, [0]), [(1, None)], (2, False, [(1, NOP, 0, 0, 2, [1])], None)])

    def test_a_full_queue(self):
        front = Front([("line", 2), ("wait2", 1), ("waitm", 3), ("queue", 2), ("fetch", 4)], memory_with())
        # 0 and 1 stand in one line; with the queue full nothing more is made.
        self.same(front.cycles(7), [(0, 4), (0, 3), (0, 2), (0, 1), (2, None), (2, None), (2, None)])
        front.fetcher.pulled()
        self.same(front.cycles(1), [(1, 4)])
        front.fetcher.pulled()
        self.same(front.cycles(5), [(0, 3), (0, 2), (0, 1), (2, None), (2, None)])

    def test_a_held_row_ahead_of_the_last_room(self):
        front = Front([("line", 1), ("wait2", 0), ("waitm", 1), ("queue", 1), ("fetch", 2)], memory_with())
        self.same(front.cycles(2), [(0, 1), (1, None)])
        front.fetcher.pulled()
        self.same(front.cycles(4), [(0, 1), (1, None), (1, None), (1, None)])
        front = Front([("line", 1), ("wait2", 0), ("waitm", 3), ("queue", 2), ("fetch", 4)], memory_with())
        front.cycles(4)
        self.same(front.told()[2:], ([(0, NOP, 0, 0, 1, [0])], (1, NOP, 0, 0, [1], 3)))
        self.same(front.cycles(4), [(1, 2), (1, 1), (2, None), (2, None)])


class Rows(Case):
    def test_leans_without_pages_and_with(self):
        front = Front(AT_ONCE, memory_with())
        front.cycle()
        self.same([row[5] for row in front.fetcher.rows()], [[0], [1]])
        front = Front(AT_ONCE, memory_with(("lim", 1, 9), at=160, rows=[(0, 10, 1)]), USER)
        front.cycles(3)
        self.same(front.fetcher.rows()[0], (0, encoded(("lim", 1, 9)), 0, 0, 1, [32, 48, 160]))

    def test_cycles_of_entries_and_words_are_added(self):
        settings = [("line", 1), ("wait2", 1), ("waitm", 3), ("fetch", 1), ("queue", 8)]
        front = Front(settings, memory_with(rows=[(0, 10, 1)], at=160), USER)
        # Two entries and a word of 5 cycles each; then the buffer knows the page.
        self.same([many for many, _ in front.cycles(25)], [0] * 14 + [1] * 5 + [2] * 5 + [3])

    def test_fetches_that_fail_at_once(self):
        for address in (960, 977, 1023, 1024, 4095):
            front = Front(AT_ONCE, memory_with())
            front.fetcher.redirected(address)
            behind = (address + 1) % 4096
            self.same([front.cycles(3), front.told()],
                      [[(1, None)] * 3, (behind, True, [(address, None, 7, address, behind, [])], None)])

    def test_fetches_that_fail_behind_reading_entries(self):
        cases = [
            (USER, 16, [(0, 10, 1)], 4, [32, 49]), (USER, 0, [(0, 10, 0)], 4, [32, 48]),
            (USER, 4095, [(0, 10, 1)], 4, [47]), (SUPERVISOR, 15, [(0, 60, 3)], 7, [32, 48]),
            (SUPERVISOR, 15, [(0, 63, 0)], 7, [32, 48]),
        ]
        for controls, address, rows, cause, leans in cases:
            settings = [("line", 1), ("wait2", 1), ("waitm", 3)]
            front = Front(settings, memory_with(rows=rows, at=160), controls)
            front.fetcher.redirected(address)
            c, behind = 5 * len(leans), (address + 1) % 4096
            front.cycles(1)
            self.same(front.told(), (address, False, [], (address, None, cause, address, leans, c - 1)))
            self.same([many for many, _ in front.cycles(c + 1)], [0] * (c - 2) + [1] * 3)
            self.same(front.told(), (behind, True, [(address, None, cause, address, behind, leans)], None))

    def test_a_root_beyond_memory(self):
        front = Front([], memory_with(), [17, 0, 0, 0, 0, 63, 0, 0])
        front.cycle()
        self.same(front.told(), (1, True, [(0, None, 7, 0, 1, [])], None))

    def test_bad_words_stop(self):
        for word in (0, 65535, 2379, 51201):
            front = Front(AT_ONCE + [("fetch", 4)], memory_with(("nop",), word))
            self.same([front.cycles(3), front.told()],
                      [[(2, None)] * 3, (2, True, [(0, NOP, 0, 0, 1, [0]), (1, word, 1, 0, 2, [1])], None)])

    def test_lone_ones_stop_and_no_others(self):
        for one in (("sys", 7), ("rdc", 1, 2), ("wrc", 1, 2), ("ret",), ("halt",)):
            front = Front(AT_ONCE + [("fetch", 4)], memory_with(one))
            self.same([front.cycles(2), front.told()],
                      [[(1, None)] * 2, (1, True, [(0, encoded(one), 0, 0, 1, [0])], None)])
        for one in (("add", 7, 7, 7), ("mul", 1, 2, 3), ("div", 1, 2, 3), ("ld", 1, 2, 3), ("st", 1, 2, 3),
                    ("bz", 1, 9), ("jal", 7, 9), ("jr", 7, 7, 0), ("lim", 1, 9), ("nop",)):
            front = Front(AT_ONCE + [("fetch", 1)], memory_with(one))
            front.cycle()
            self.same([front.fetcher.stopped, len(front.fetcher.rows())], [False, 1])

    def test_it_goes_on_where_it_is_expected_to(self):
        front = Front(AT_ONCE + [("fetch", 4), ("queue", 8)],
                      memory_with(("jal", 7, 100), ("jal", 1, 3), ("nop",), ("nop",), ("jr", 0, 7, 0)))
        front.fetcher.redirected(0)
        front.hierarchy.written(100, encoded(("jr", 0, 7, 0)))
        front.cycles(2)
        self.same([(row[0], row[4]) for row in front.fetcher.rows()],
                  [(0, 100), (100, 1), (1, 4), (4, 5), (5, 6), (6, 7), (7, 8), (8, 9)])

    def test_the_predictor_is_asked_when_the_row_is_delivered(self):
        front = Front([("line", 1), ("fetch", 1)], memory_with(("bnz", 1, 50)))
        front.cycles(8)
        front.predictor.learned(0, encoded(("bnz", 1, 50)), 50)
        front.cycle()
        self.same(front.told()[:3], (50, False, [(0, encoded(("bnz", 1, 50)), 0, 0, 50, [0])]))

    def test_addresses_turn_over(self):
        front = Front(AT_ONCE, memory_with(at=160, rows=[(255, 10, 1), (0, 11, 1)]), USER)
        front.fetcher.redirected(4095)
        front.cycles(5)
        self.same([(row[0], row[4], row[5]) for row in front.fetcher.rows()[:2]],
                  [(4095, 0, [47, 79, 175]), (0, 1, [32, 48, 176])])


class Pulling(Case):
    def test_the_first_one(self):
        front = Front(AT_ONCE, memory_with(("lim", 1, 1), ("lim", 1, 2)))
        front.cycle()
        self.same([front.fetcher.pulled()[1], front.fetcher.pulled()[1]],
                  [encoded(("lim", 1, 1)), encoded(("lim", 1, 2))])
        for _ in range(2):
            self.refused(NothingFetched, {}, front.fetcher.pulled)
        self.same(front.told(), (2, False, [], None))

    def test_not_the_held_one(self):
        front = Front([("line", 1)], memory_with())
        front.cycle()
        self.refused(NothingFetched, {}, front.fetcher.pulled)
        self.same(front.fetcher.held_row(), (0, NOP, 0, 0, [0], 8))

    def test_a_stopped_one_stays_so(self):
        front = Front(AT_ONCE, memory_with(("halt",)))
        front.cycle()
        front.fetcher.pulled()
        self.same([front.cycles(2), front.told()], [[(0, None), (0, None)], (1, True, [], None)])


class Leaning(Case):
    def test_on_rows_of_the_queue_and_the_held_one(self):
        front = Front([("line", 1), ("fetch", 4), ("queue", 8), ("ways1", 4)],
                      memory_with(at=160, rows=[(0, 10, 1), (1, 30, 1)]), USER)
        front.fetcher.redirected(15)
        front.cycles(27)
        self.same([row[5] for row in front.fetcher.rows()] + [front.fetcher.held_row()[4]],
                  [[32, 48, 175], [32, 49, 480]])
        self.same([place for place in range(1024) if front.fetcher.leans_on(place)], [32, 48, 49, 175, 480])
        front.fetcher.pulled()
        self.same([place for place in range(1024) if front.fetcher.leans_on(place)], [32, 49, 480])
        front.fetcher.redirected(0)
        self.same([place for place in range(1024) if front.fetcher.leans_on(place)], [])

    def test_rows_without_words_lean_on_their_entries(self):
        front = Front(AT_ONCE, memory_with(at=160, rows=[(0, 10, 0)]), USER)
        front.cycle()
        self.same([place for place in range(1024) if front.fetcher.leans_on(place)], [32, 48])


class Redirected(Case):
    def test_all_goes(self):
        front = Front([("line", 2), ("wait2", 1), ("waitm", 3)], memory_with(("nop",), ("nop",), ("halt",)))
        front.cycles(6)
        self.same(front.told()[0:2] + front.told()[3][:1], (2, False, 2))
        self.same([front.fetcher.redirected(7), front.told()], [None, (7, False, [], None)])

    def test_a_stopped_one_goes_on(self):
        front = Front(AT_ONCE, memory_with(("halt",)))
        front.cycle()
        front.fetcher.redirected(0)
        self.same(front.told(), (0, False, [], None))
        front.cycle()
        self.same(front.told()[1:3], (True, [(0, encoded(("halt",)), 0, 0, 1, [0])]))


class Model:
    """[6a8] by the time at which a row may be delivered; it makes rows by parts of its own."""

    def __init__(self, front):
        self.parts, self.now, self.address, self.stopped, self.queue, self.held = front, -1, 0, False, [], None

    def cycle(self):
        self.now += 1
        of, left = self.parts.settings.value, self.parts.settings.value("fetch")
        while left and len(self.queue) < of("queue") and (self.held or not self.stopped):
            left -= 1
            self.held = self.held or self.made()
            row, time = self.held
            if self.now < time:
                return
            self.held = None
            expected = (row[0] + 1) % 4096
            if row[1] is not None:
                expected = self.parts.predictor.expected(row[0], row[1])
            self.queue.append(row[:4] + (expected, row[4]))
            self.stopped = row[1] is None or row[2] == 1 or sort_of(decoded(row[1])) == "lone"
            self.address = expected

    def made(self):
        parts, here = self.parts, self.address
        place, cause, leans, cycles = asked(parts.buffer, parts.hierarchy, parts.whims, parts.settings, parts.controls,
                                            here, "fetch")
        if cause:
            return (here, None, cause, here, leans), self.now + cycles - (cycles > 0)
        word, more = parts.hierarchy.fetched(place)
        return (here, word, int(decoded(word) is None), 0, leans + [place]), self.now + cycles + more - 1

    def told(self):
        held = self.held and self.held[0] + (max(self.held[1] - self.now, 0),)
        return self.address, self.stopped, self.queue, held


class AgainstTheModel(Case):
    def test_all_of_it(self):
        dice = random.Random(14)
        words = [NOP, NOP, encoded(("bnz", 1, -3)), encoded(("jal", 7, 5)), encoded(("jr", 0, 7, 0)),
                 encoded(("bz", 2, 9)), encoded(("lim", 1, 3))]
        for _ in range(60):
            settings = [("fetch", dice.randrange(1, 5)), ("queue", dice.randrange(1, 9)), ("twist", dice.randrange(2)),
                        ("whim", dice.randrange(5)), ("line", dice.choice([1, 4])), ("wait2", dice.randrange(3)),
                        ("waitm", dice.randrange(5)), ("buffer", dice.randrange(1, 4))]
            memory = Memory()
            for place in range(960):
                memory.put(place, dice.choice(words) if dice.random() < 0.95 else dice.choice([0, 51200]))
            laid(memory, 2, [3], [(page, dice.choice([5, 6, 7, 8, 60]), dice.choice([1, 1, 1, 3, 0]))
                                  for page in dice.sample(range(16), 12)])
            numbers = [dice.randrange(5000) for _ in range(200)]
            controls = dice.choice([STRAIGHT, USER, SUPERVISOR])
            front = Front(settings, memory, controls, numbers)
            model = Model(Front(settings, memory.copy(), controls, numbers))
            for _ in range(60):
                self.same(front.cycle(), None)
                model.cycle()
                self.same([front.told(), front.whims.taken], [model.told(), model.parts.whims.taken])
                self.same([front.buffer.rows(), front.hierarchy.lines()],
                          [model.parts.buffer.rows(), model.parts.hierarchy.lines()])
                for place in (0, 3, 33, 50, 80, 100):
                    leans = [row[5] for row in model.queue] + ([model.held[0][4]] if model.held else [])
                    self.same(front.fetcher.leans_on(place), any(place in one for one in leans))
                if dice.random() < 0.4 and model.queue:
                    self.same(front.fetcher.pulled(), model.queue.pop(0))
                if dice.random() < 0.1 or model.stopped:
                    address = dice.choice([dice.randrange(256), dice.randrange(4096)])
                    front.fetcher.redirected(address)
                    model.address, model.stopped, model.queue, model.held = address, False, [], None


class ByWhims(Case):
    def test_each_part_takes_its_own(self):
        settings = Settings([("twist", 1), ("whim", 1)] + AT_ONCE)
        of_fetcher, of_predictor, of_hierarchy = Whims([3, 0] * 4), Whims([3, 77]), Whims([0, 0] * 4)
        fetcher, guess = Fetcher(settings, of_fetcher), Predictor(settings, of_predictor)
        held = Hierarchy(settings, memory_with(("jal", 7, 5)), of_hierarchy)
        fetcher.cycle(guess, Buffer(1), held, STRAIGHT)
        self.same([fetcher.rows()[0][4], of_fetcher.taken, of_predictor.taken, of_hierarchy.taken], [77, 4, 2, 4])


class Apart(Case):
    def test_copies_change_apart_and_take_their_own_whims(self):
        settings = [("line", 1), ("wait2", 0), ("waitm", 2), ("fetch", 2), ("twist", 1), ("queue", 4)]
        front = Front(settings, memory_with(at=160, rows=[(0, 10, 1)]), USER, [0] * 200)
        front.cycles(14)
        told = front.told()
        self.assertTrue(told[2] and told[3])
        other = Whims([3, 0, 3, 0])
        copied = front.fetcher.copy(other)
        self.assertIsInstance(copied, Fetcher)
        self.same((copied.address, copied.stopped, copied.rows(), copied.held_row()), told)
        taken = front.whims.taken
        copied.pulled()
        for _ in range(3):
            copied.cycle(Predictor(Settings([]), Whims([])), Buffer(1), front.hierarchy.copy(), STRAIGHT)
        self.same([front.told(), front.whims.taken, other.taken > 0], [told, taken, True])
        again = front.fetcher.copy(whims=other)
        front.cycles(5)
        front.fetcher.redirected(9)
        self.same((again.address, again.stopped, again.rows(), again.held_row()), told)
        self.same(front.fetcher.copy(other).address, 9)

    def test_a_stopped_one(self):
        front = Front(AT_ONCE, memory_with(("halt",)))
        front.cycle()
        copied = front.fetcher.copy(Whims([]))
        front.fetcher.redirected(5)
        self.same([copied.stopped, front.fetcher.stopped], [True, False])

    def test_what_is_returned_is_new(self):
        front = Front([("line", 2), ("wait2", 1), ("waitm", 3)], memory_with())
        front.cycles(6)
        told = front.told()
        copied = front.fetcher.copy(Whims([]))
        front.fetcher.rows()[0][5].clear()
        front.fetcher.rows().clear()
        front.fetcher.held_row()[4].clear()
        self.same(front.told(), told)
        front.fetcher.pulled()[5].clear()
        self.same(copied.rows(), told[2])

    def test_what_is_passed_stays(self):
        controls = list(USER)
        front = Front([], memory_with(at=160, rows=[(0, 10, 1)]), controls)
        front.cycles(30)
        self.same(controls, USER)
        front.controls = tuple(USER)
        front.fetcher.redirected(1)
        front.cycles(9)
        self.same(front.fetcher.rows()[0][:2], (1, NOP))

    def test_arguments_by_name(self):
        settings, whims = Settings(AT_ONCE), Whims([])
        fetcher = Fetcher(settings=settings, whims=whims)
        fetcher.redirected(address=3)
        fetcher.cycle(predictor=Predictor(settings, whims), buffer=Buffer(1),
                      hierarchy=Hierarchy(settings, memory_with(), whims), controls=STRAIGHT)
        self.same([fetcher.leans_on(place=3), fetcher.leans_on(place=5), fetcher.address], [True, False, 5])

    def test_stored_words_are_fetched_as_they_are_seen(self):
        front = Front(AT_ONCE, memory_with(("nop",)))
        front.hierarchy.written(0, encoded(("lim", 1, 9)))
        front.cycle()
        self.same(front.fetcher.rows()[0][1], encoded(("lim", 1, 9)))

    def test_an_entry_that_changes_is_found_anew(self):
        front = Front(AT_ONCE + [("fetch", 1)], memory_with(at=160, rows=[(0, 10, 1)]), USER)
        front.cycles(3)
        front.hierarchy.written(48, page_entry(20, 1))
        front.buffer.stored(48)
        front.cycles(3)
        self.same([row[5] for row in front.fetcher.rows()], [[32, 48, 160], [32, 48, 321]])


class Refusals(Case):
    def test_parts(self):
        settings, whims = Settings([]), Whims([])
        no_whims = NO_OBJECTS + [Whims, settings]
        self.refused_each(InvalidSettings, "value", NO_OBJECTS + [Settings, whims],
                          lambda value: Fetcher(value, whims))
        self.refused_each(InvalidWhims, "value", no_whims, lambda value: Fetcher(settings, value))
        self.refused_in_sequence(Fetcher, (settings, InvalidSettings, 0), (whims, InvalidWhims, 1))
        self.refused_each(InvalidWhims, "value", no_whims, Fetcher(settings, whims).copy)

    def test_places_and_addresses_change_nothing(self):
        front = Front([("line", 2), ("wait2", 1), ("waitm", 3)], memory_with())
        front.cycles(6)
        told = front.told()
        self.refused_each(InvalidPlace, "value", NO_PLACES, front.fetcher.leans_on)
        self.refused_each(InvalidAddress, "value", NO_ADDRESSES, front.fetcher.redirected)
        self.same(front.told(), told)


if __name__ == "__main__":
    unittest.main()
