"""Asking [5b3]."""

import random
import unittest

from kit import NO_ADDRESSES, NO_CONTROLS, NO_OBJECTS, NO_WAYS, Case
from models import found, found_straight
from orderlycore.buffers import Buffer
from orderlycore.errors import (InvalidAddress, InvalidBuffer, InvalidControls, InvalidHierarchy, InvalidSettings,
                                InvalidWay, InvalidWhims)
from orderlycore.hierarchy import Hierarchy
from orderlycore.memory import Memory, memory_of
from orderlycore.pages import laid, page_entry
from orderlycore.settings import Settings
from orderlycore.walker import asked
from orderlycore.whims import Whims

PLAIN = Settings([])
TWISTED = Settings([("twist", 1)])
WAYS = ("fetch", "load", "store")
OWN = {"fetch": 4, "load": 5, "store": 6}


def controls_of(status, root=2):
    return [status, 0, 0, 0, 0, root, 0, 0]


USER, SUPERVISOR, STRAIGHT = controls_of(16), controls_of(17), controls_of(1)


class Parts:
    """A buffer, and a hierarchy over a memory with tables laid from the root 2 on, by whims of both."""

    def __init__(self, rows, settings=PLAIN, numbers=(), entries=4):
        memory = Memory()
        laid(memory, 2, [3, 4], rows)
        self.settings, self.whims, self.buffer = settings, Whims(numbers), Buffer(entries)
        self.hierarchy = Hierarchy(settings, memory, self.whims)

    def ask(self, controls, address, way):
        return asked(self.buffer, self.hierarchy, self.whims, self.settings, controls, address, way)

    def told(self):
        return self.buffer.rows(), self.hierarchy.lines(), self.whims.taken


class Examples(Case):
    def test_example(self):
        store, plain, free, lone = Memory(), Settings([]), Whims([]), Buffer(4)
        self.same(
            [laid(store, 2, [3], [(0, 10, 1), (5, 61, 0)]),
             asked(lone, Hierarchy(plain, store, free), free, plain, [17, 0, 0, 0, 0, 2, 0, 0], 7, "store"),
             lone.rows(),
             asked(lone, Hierarchy(plain, store, free), free, plain, [16, 0, 0, 0, 0, 2, 0, 0], 7, "load"),
             asked(lone, Hierarchy(plain, store, free), free, plain, [1, 0, 0, 0, 0, 2, 0, 0], 7, "load")],
            [None, (None, 6, [32, 48], 18), [(0, 32, 48, 40970)], (167, 0, [32, 48], 0), (7, 0, [], 0)],
        )


class Straight(Case):
    def test_without_pages(self):
        parts = Parts([(0, 10, 3)])
        parts.ask(USER, 0, "load")
        told = parts.told()
        for status in (0, 1, 2, 3, 15, 32, 65535 - 16):
            for address in (0, 7, 959, 960, 977, 1023, 1024, 4095):
                for way in WAYS:
                    self.same(parts.ask(controls_of(status), address, way), (*found_straight(address, way), 0))
        self.same(parts.told(), told)


class ByTables(Case):
    def test_cycles_of_both_reads(self):
        # Both entries from memory, both from the first cache, the first one alone from there.
        parts = Parts([(0, 10, 3), (1, 11, 3), (16, 12, 3)], Settings([("ways1", 4)]))
        self.same([parts.ask(USER, 3, "load"), parts.ask(USER, 16, "store"), parts.ask(USER, 256, "fetch")],
                  [(163, 0, [32, 48], 18), (176, 0, [32, 49], 2), (192, 0, [33, 64], 10)])
        self.same(parts.buffer.rows(), [(0, 32, 48, page_entry(10, 3)), (1, 32, 49, page_entry(11, 3)),
                                        (16, 33, 64, page_entry(12, 3))])

    def test_entries_that_push_each_other_out_of_the_first_cache(self):
        parts = Parts([(0, 10, 3), (1, 11, 3)])
        self.same([parts.ask(USER, 3, "load"), parts.ask(USER, 16, "store")],
                  [(163, 0, [32, 48], 18), (176, 0, [32, 49], 6)])

    def test_cycles_of_one_read_and_of_none(self):
        parts = Parts([(0, 10, 3)])
        self.same([parts.ask(USER, 4095, "load"), parts.ask(USER, 4095, "fetch"), parts.ask(USER, 4094, "store")],
                  [(None, 5, [47], 9), (None, 4, [47], 1), (None, 6, [47], 1)])
        for root in (60, 63, 64 + 60, 65535):
            self.same(parts.ask(controls_of(17, root), 0, "load"), (None, 7, [], 0))
        self.same(parts.buffer.rows(), [])

    def test_tables_beyond_memory(self):
        memory = memory_of([(32, [page_entry(60, 3)])])
        whims = Whims([])
        self.same(asked(Buffer(1), Hierarchy(PLAIN, memory, whims), whims, PLAIN, USER, 0, "load"),
                  (None, 7, [32], 9))

    def test_what_is_entered(self):
        for flags in range(4):
            for frame in (10, 60):
                for way in WAYS:
                    for side in (USER, SUPERVISOR):
                        parts = Parts([(5, frame, flags)])
                        place, cause, leans, cycles = parts.ask(side, 83, way)
                        words = [parts.hierarchy.seen(place) for place in range(960)]
                        self.same((place, cause, leans), found(words, 2, 83, way, side is USER))
                        self.same([cycles, parts.buffer.rows()],
                                  [18, [(5, 32, 53, page_entry(frame, flags))]])

    def test_what_is_not_there_is_not_entered(self):
        parts = Parts([(5, 10, 3)])
        for address in (0, 96, 256):
            for way in WAYS:
                self.same(parts.ask(USER, address, way)[:2], (None, OWN[way]))
        self.same(parts.buffer.rows(), [])

    def test_the_eldest_goes(self):
        parts = Parts([(0, 10, 3), (1, 11, 3), (2, 12, 3)], entries=2)
        for address in (0, 16, 0, 32):
            parts.ask(USER, address, "load")
        self.same([row[0] for row in parts.buffer.rows()], [1, 2])

    def test_home_of_the_root_counts_modulo(self):
        parts = Parts([(0, 10, 3)])
        self.same(parts.ask(controls_of(16, 64 * 5 + 2), 7, "load"), (167, 0, [32, 48], 18))

    def test_what_caches_tell_comes_ahead_of_memory(self):
        parts = Parts([(0, 10, 3)])
        parts.hierarchy.written(48, page_entry(20, 1))
        self.same([parts.ask(USER, 7, "load")[:3], parts.hierarchy.below(48)],
                  [(327, 0, [32, 48]), page_entry(10, 3)])


class ByTheBuffer(Case):
    def test_nothing_is_read(self):
        for flags in range(4):
            for frame in (10, 60):
                for side in (USER, SUPERVISOR):
                    parts = Parts([(5, frame, flags)])
                    parts.ask(side, 80, "load")
                    told = parts.told()
                    words = [parts.hierarchy.seen(place) for place in range(960)]
                    for way in WAYS:
                        for address in (80, 95):
                            self.same(parts.ask(side, address, way),
                                      (*found(words, 2, address, way, side is USER), 0))
                    self.same(parts.told(), told)

    def test_by_its_word_and_its_places(self):
        parts = Parts([])
        parts.buffer.entered(5, 900, 901, page_entry(20, 1))
        self.same(parts.ask(controls_of(16, 60), 81, "load"), (321, 0, [900, 901], 0))
        parts.buffer.entered(5, 900, 901, 16384 + 8192 + 20)
        self.same(parts.ask(controls_of(17, 60), 81, "load"), (None, 5, [900, 901], 0))

    def test_an_entry_that_went_is_read_anew(self):
        parts = Parts([(0, 10, 3)])
        parts.ask(USER, 0, "load")
        parts.hierarchy.written(48, page_entry(20, 1))
        parts.buffer.stored(48)
        self.same([parts.ask(USER, 0, "load"), parts.ask(USER, 0, "load")],
                  [(320, 0, [32, 48], 6), (320, 0, [32, 48], 0)])


class ByWhims(Case):
    def kept(self, numbers, entries=4):
        parts = Parts([(0, 10, 3), (1, 11, 3), (2, 12, 3)], TWISTED, numbers, entries)
        for page in (0, 1, 2):
            parts.buffer.entered(page, 32, 48 + page, page_entry(10 + page, 3))
        return parts

    def pages(self, parts):
        return [row[0] for row in parts.buffer.rows()]

    def test_an_entry_goes_out(self):
        for number, left in ((0, [1, 2]), (1, [0, 2]), (2, [0, 1]), (3, [0, 1, 2]), (4, [1, 2]), (7, [0, 1, 2])):
            parts = self.kept([3, number])
            self.same([parts.ask(STRAIGHT, 7, "load"), self.pages(parts), parts.whims.taken],
                      [(7, 0, [], 0), left, 2])

    def test_one_of_the_most_entries_not_of_those_there(self):
        parts = self.kept([7, 8], entries=16)
        self.same([parts.ask(STRAIGHT, 7, "load")[0], self.pages(parts), parts.whims.taken], [7, [0, 1, 2], 2])
        parts = self.kept([7, 9], entries=3)
        self.same([parts.ask(STRAIGHT, 7, "load")[0], self.pages(parts), parts.whims.taken], [7, [1, 2], 2])

    def test_other_whims_take_just_one(self):
        for number in (0, 1, 2, 4, 5, 6):
            parts = self.kept([number, 0])
            self.same([parts.ask(USER, 7, "load"), self.pages(parts), parts.whims.taken],
                      [(167, 0, [32, 48], 0), [0, 1, 2], 1])

    def test_the_entry_that_is_asked_for_may_go_and_comes_again(self):
        # 3 and 0 of the buffer; of each read 0 for the caches.
        parts = self.kept([3, 0, 0, 0])
        self.same([parts.ask(USER, 7, "load"), self.pages(parts), parts.whims.taken],
                  [(167, 0, [32, 48], 18), [1, 2, 0], 4])

    def test_without_twist_none_is_taken(self):
        parts = Parts([(0, 10, 3)], Settings([("whim", 4)]), [3, 2, 1, 4])
        self.same([parts.ask(USER, 7, "load"), parts.whims.taken, parts.ask(USER, 7, "load"), parts.whims.taken],
                  [(167, 0, [32, 48], 18 + 3 + 2), 2, (167, 0, [32, 48], 0), 2])

    def test_its_whims_and_the_hierarchys_may_be_others(self):
        memory, own, held = Memory(), Whims([3, 0]), Whims([0, 0, 0, 0])
        laid(memory, 2, [3], [(0, 10, 3)])
        buffer = Buffer(1)
        asked(buffer, Hierarchy(TWISTED, memory, held), own, TWISTED, USER, 0, "load")
        self.same([own.taken, held.taken, len(buffer.rows())], [2, 2, 1])


class AlikeWithTables(Case):
    def test_whatever_buffer_settings_and_whims(self):
        dice = random.Random(12)
        for _ in range(60):
            counts = [("twist", dice.randrange(2)), ("whim", dice.randrange(5)), ("line", dice.choice([1, 4, 16])),
                      ("wait2", dice.randrange(10)), ("waitm", dice.randrange(21))]
            settings, frames = Settings(counts), dice.sample(range(60), 5)
            memory, whims = Memory(), Whims([dice.randrange(1000) for _ in range(200)])
            laid(memory, frames[0], frames[1:], [(page, dice.randrange(64), dice.randrange(4))
                                                 for page in dice.sample(range(64), 40)])
            buffer, hierarchy = Buffer(dice.randrange(1, 17)), Hierarchy(settings, memory, whims)
            words = [memory.word(place) for place in range(960)]
            most = 2 * (1 + sum(settings.value(name) for name in ("wait2", "waitm", "whim")))
            for _ in range(60):
                if dice.random() < 0.2:
                    place = dice.choice(frames) * 16 + dice.randrange(16)
                    word = dice.choice([dice.randrange(65536), page_entry(dice.choice(frames), 3)])
                    hierarchy.written(place, word)
                    buffer.stored(place)
                    words[place] = word
                status, address, way = dice.choice([16, 17, 17, 16, 1]), dice.randrange(1100), dice.choice(WAYS)
                told = asked(buffer, hierarchy, whims, settings, controls_of(status, frames[0]), address, way)
                if status == 1:
                    self.same(told, (*found_straight(address, way), 0))
                else:
                    self.same(told[:3], found(words, frames[0], address, way, status == 16))
                    self.assertTrue(0 <= told[3] <= most)
            self.assertEqual([hierarchy.seen(place) for place in range(960)], words)


class Apart(Case):
    def test_what_is_passed_and_returned(self):
        parts = Parts([(0, 10, 3)])
        controls = controls_of(16)
        for _ in range(2):
            parts.ask(controls, 0, "load")[2].clear()
        self.same([controls, parts.ask(tuple(controls), 0, "load")], [controls_of(16), (160, 0, [32, 48], 0)])

    def test_arguments_by_name(self):
        parts = Parts([(0, 10, 3)])
        self.same(asked(buffer=parts.buffer, hierarchy=parts.hierarchy, whims=parts.whims, settings=PLAIN,
                        controls=USER, address=3, way="load"), (163, 0, [32, 48], 18))


class Refusals(Case):
    def test_each_and_their_sequence_and_nothing_changes(self):
        parts = Parts([(0, 10, 3)], TWISTED, [3, 0, 3, 0, 3, 0])
        parts.buffer.entered(0, 32, 48, page_entry(10, 3))
        told = parts.told()
        given = [parts.buffer, parts.hierarchy, parts.whims, TWISTED, USER, 0, "load"]
        wrong = [
            (InvalidBuffer, NO_OBJECTS + [Buffer, parts.hierarchy], None),
            (InvalidHierarchy, NO_OBJECTS + [Hierarchy, parts.buffer, Memory()], 0),
            (InvalidWhims, NO_OBJECTS + [Whims, [0], TWISTED], [1]),
            (InvalidSettings, NO_OBJECTS + [Settings, [("twist", 1)], parts.whims], "twist"),
            (InvalidControls, NO_CONTROLS, [0] * 7),
            (InvalidAddress, NO_ADDRESSES, 4096),
            (InvalidWay, NO_WAYS, "read"),
        ]
        for at, (error, values, _) in enumerate(wrong):
            self.refused_each(error, "value", values, lambda value: asked(*given[:at], value, *given[at + 1:]))
        self.refused_in_sequence(asked, *[(right, error, value)
                                          for right, (error, _, value) in zip(given, wrong)])
        self.same(parts.told(), told)


if __name__ == "__main__":
    unittest.main()
