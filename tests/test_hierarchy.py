"""Three caches, reading, writing, what stands there, whims [5a3] to [5a7]."""

import random
import unittest

from kit import BIG, NO_MEMORY_PLACES, NO_OBJECTS, NO_WORDS, Case
from models import Layers
from orderlycore.errors import InvalidHierarchy, InvalidMemory, InvalidPlace, InvalidSettings, InvalidWhims, InvalidWord
from orderlycore.hierarchy import Hierarchy, need_hierarchy
from orderlycore.memory import Memory, memory_of
from orderlycore.settings import Settings
from orderlycore.whims import Whims

SMALL = [("line", 2), ("sets1", 1), ("ways1", 1), ("sets2", 2), ("ways2", 1), ("wait2", 2), ("waitm", 6)]


def with_words(many=960):
    """A memory whose word at a place is it and 1000."""
    made = Memory()
    for place in range(many):
        made.put(place, place + 1000)
    return made


def words_of(memory):
    return [memory.word(place) for place in range(960)]


def any_settings(dice):
    counts = {"line": dice.choice([1, 2, 4, 8, 16]), "sets1": dice.choice([1, 2, 8]), "ways1": dice.choice([1, 2, 4]),
              "sets2": dice.choice([1, 2, 3]), "ways2": dice.choice([1, 2, 4]), "wait2": dice.randrange(10),
              "waitm": dice.randrange(21), "whim": dice.choice([0, 0, 1, 4]), "twist": dice.choice([0, 1, 1])}
    return Settings(list(counts.items()))


class Examples(Case):
    def test_example(self):
        held = Hierarchy(Settings(SMALL + [("twist", 0), ("whim", 0)]), Memory(), Whims([]))
        self.same(
            [held.read(8), held.written(9, 3), held.read(9), held.fetched(8), held.below(9), held.seen(9),
             held.read(12), held.below(9), held.read(9)],
            [(0, 9), None, (3, 1), (0, 3), 0, 3, (0, 9), 3, (3, 9)],
        )
        self.same(held.lines(),
                  ([[(8, [0, 3], False)]], [[(8, [0, 3], False)]], [[(8, [0, 3], False)], []]))


class AtFirst(Case):
    def test_all_are_empty(self):
        held = Hierarchy(Settings([("sets1", 3), ("sets2", 5)]), with_words(), Whims([]))
        self.same(held.lines(), ([[], [], []], [[], [], []], [[], [], [], [], []]))
        self.same([held.seen(place) for place in range(960)], [place + 1000 for place in range(960)])
        self.same([held.below(place) for place in range(960)], [place + 1000 for place in range(960)])


class Reading(Case):
    def test_cycles_of_the_three_ways(self):
        for wait2, waitm in ((0, 0), (9, 20), (2, 6), (0, 20), (9, 0)):
            held = Hierarchy(Settings([("line", 4), ("wait2", wait2), ("waitm", waitm)]), with_words(), Whims([]))
            self.same([held.read(5), held.read(5), held.read(7), held.fetched(4), held.fetched(5)],
                      [(1005, 1 + wait2 + waitm), (1005, 1), (1007, 1), (1004, 1 + wait2), (1005, 1)])

    def test_two_first_caches_and_one_second(self):
        held = Hierarchy(Settings(SMALL), with_words(), Whims([]))
        held.fetched(0)
        held.read(2)
        self.same(held.lines(), ([[(0, [1000, 1001], False)]], [[(2, [1002, 1003], False)]],
                                 [[(0, [1000, 1001], False)], [(2, [1002, 1003], False)]]))

    def test_a_line_that_is_in_a_first_cache_alone(self):
        held = Hierarchy(Settings(SMALL), with_words(), Whims([]))
        self.same([held.read(0), held.fetched(4), held.read(1), held.lines()[2][0]],
                  [(1000, 9), (1004, 9), (1001, 1), [(4, [1004, 1005], False)]])

    def test_a_reading_in_the_first_cache_is_no_use_in_the_second(self):
        held = Hierarchy(Settings([("line", 1), ("sets1", 1), ("ways1", 2), ("sets2", 1), ("ways2", 2)]), with_words(),
                         Whims([]))
        for place in (0, 1, 0, 0):
            held.read(place)
        self.same([[line[0] for line in held.lines()[at][0]] for at in (1, 2)], [[1, 0], [0, 1]])

    def test_a_reading_past_the_first_cache_is_a_use_in_the_second(self):
        held = Hierarchy(Settings([("line", 1), ("sets1", 1), ("ways1", 1), ("sets2", 1), ("ways2", 2)]), with_words(),
                         Whims([]))
        for place in (0, 1, 0):
            held.read(place)
        self.same([[line[0] for line in held.lines()[at][0]] for at in (1, 2)], [[0], [1, 0]])

    def test_the_last_line_of_memory(self):
        for line in (1, 2, 4, 8, 16):
            held = Hierarchy(Settings([("line", line)]), with_words(), Whims([]))
            self.same([held.read(959)[0], held.fetched(959)[0]], [1959, 1959])
            self.same([row for row in held.lines()[2] if row],
                      [[(960 - line, [1000 + place for place in range(960 - line, 960)], False)]])


class Writing(Case):
    def test_into_lines_that_stand_in_none(self):
        held = Hierarchy(Settings(SMALL), with_words(), Whims([]))
        self.same([held.written(1, 7), held.lines(), held.below(1), held.seen(1)],
                  [None, ([[]], [[]], [[(0, [1000, 7], True)], []]), 1001, 7])

    def test_into_lines_that_stand_in_all_three(self):
        held = Hierarchy(Settings(SMALL), with_words(), Whims([]))
        held.fetched(0)
        held.read(0)
        held.written(1, 7)
        self.same(held.lines(), ([[]], [[(0, [1000, 7], False)]], [[(0, [1000, 7], True)], []]))
        self.same([held.fetched(1), held.read(1)], [(7, 3), (7, 1)])

    def test_into_lines_that_stand_in_two(self):
        for first in ("read", "fetched"):
            held = Hierarchy(Settings(SMALL), with_words(), Whims([]))
            getattr(held, first)(0)
            held.written(0, 7)
            self.same([held.read(0)[0], held.fetched(0)[0], held.seen(0), held.below(0)], [7, 7, 7, 1000])

    def test_into_lines_that_stand_in_a_first_cache_alone(self):
        for first in ("read", "fetched"):
            held = Hierarchy(Settings(SMALL), with_words(), Whims([]))
            getattr(held, first)(0)
            # A line of the same set of the second cache, by the other first cache.
            {"read": held.fetched, "fetched": held.read}[first](4)
            held.written(0, 7)
            self.same([held.seen(0), held.read(0)[0], held.fetched(0)[0], held.below(0)], [7, 7, 7, 1000])

    def test_it_is_no_use_in_the_first_cache_and_one_in_the_second(self):
        held = Hierarchy(Settings([("line", 1), ("sets1", 1), ("ways1", 2), ("sets2", 1), ("ways2", 2)]), with_words(),
                         Whims([]))
        held.read(0)
        held.read(1)
        held.written(0, 5)
        self.same([[line[:2] for line in held.lines()[at][0]] for at in (1, 2)],
                  [[(0, [5]), (1, [1001])], [(1, [1001]), (0, [5])]])

    def test_other_lines_of_fetched_words_stay(self):
        held = Hierarchy(Settings([("line", 2), ("sets1", 2)]), with_words(), Whims([]))
        held.fetched(0)
        held.fetched(2)
        held.written(3, 7)
        self.same(held.lines()[0], [[(0, [1000, 1001], False)], []])

    def test_written_lines_go_out_to_memory(self):
        memory = with_words()
        held = Hierarchy(Settings(SMALL), memory, Whims([]))
        held.written(0, 7)
        self.same([memory.word(0), held.below(0)], [1000, 1000])
        held.written(4, 8)
        self.same([memory.word(0), memory.word(1), memory.word(4), held.seen(0), held.seen(4)], [7, 1001, 1004, 7, 8])
        held.read(8)
        self.same([memory.word(4), held.seen(4), held.lines()[2]], [8, 8, [[(8, [1008, 1009], False)], []]])

    def test_cleaned(self):
        memory = with_words()
        held = Hierarchy(Settings(SMALL), memory, Whims([]))
        held.written(0, 7)
        held.written(3, 8)
        lines = held.lines()
        self.same([held.cleaned(), memory.word(0), memory.word(3), memory.word(1)], [None, 7, 8, 1001])
        self.same(held.lines()[2], [[(first, words, False) for first, words, _ in row] for row in lines[2]])
        memory.put(0, 9)
        held.cleaned()
        self.same([memory.word(0), held.seen(0), held.below(0)], [9, 7, 9])

    def test_it_takes_no_whims(self):
        whims = Whims([3] * 9)
        held = Hierarchy(Settings(SMALL + [("twist", 1), ("whim", 4)]), Memory(), whims)
        held.written(0, 1)
        held.written(4, 1)
        self.same([whims.taken, held.seen(0)], [0, 1])


class ByWhims(Case):
    def held(self, more, numbers):
        whims = Whims(numbers)
        return Hierarchy(Settings([("line", 1), ("sets1", 2), ("ways1", 2), ("sets2", 2), ("ways2", 2)] + more),
                         with_words(), whims), whims

    def test_without_twist_and_whim_none_are_taken(self):
        held, whims = self.held([], [3, 3, 3])
        held.read(0)
        held.fetched(0)
        self.same(whims.taken, 0)

    def test_cycles_more(self):
        for whim in (1, 2, 3, 4):
            held, whims = self.held([("whim", whim)], [0, 1, 2, 3, 4, 5, 9])
            self.same([held.read(0)[1] - 9] + [held.read(0)[1] - 1 for _ in range(7)],
                      [number % (whim + 1) for number in (0, 1, 2, 3, 4, 5, 9, 0)])
            self.same(whims.taken, 8)

    def test_out_of_the_first_cache_that_is_asked(self):
        held, whims = self.held([("twist", 1)], [0] * 8 + [3, 1, 7, 6])
        for _ in range(2):
            for place in (0, 2, 1):
                held.read(place)
        held.fetched(0)
        held.fetched(2)
        self.same(whims.taken, 8)
        # 3: the line at 1, in the set 0 the one that was used last, 2; it is read anew then.
        self.same([held.read(2), [line[0] for line in held.lines()[1][0]], whims.taken], [(1002, 3), [0, 2], 10])
        # 7 is 3 modulo 4, 6 is 2 modulo 4: in the set 1 at 0 there is 1.
        self.same([held.read(0), held.lines()[1][1], whims.taken], [(1000, 1), [], 12])
        self.same([[line[0] for line in row] for row in held.lines()[0]], [[0, 2], []])

    def test_out_of_the_second_cache(self):
        held, whims = self.held([("twist", 1)], [0, 0, 2, 0, 6, 5, 2, 3])
        held.read(0)
        held.written(2, 7)
        held.fetched(2)
        # 0 goes out of the second cache, not of the first one.
        self.same([held.read(0), [line[0] for line in held.lines()[2][0]], whims.taken], [(1000, 1), [2], 4])
        # 5 is 1 modulo 4: there is none at 1 of the set 0 now.
        self.same([held.read(0), held.below(2), whims.taken], [(1000, 1), 1002, 6])
        self.same([held.read(0), held.lines()[2], whims.taken], [(1000, 1), [[(2, [7], True)], []], 8])

    def test_written_lines_go_to_memory(self):
        held, whims = self.held([("twist", 1)], [2, 0, 3, 0])
        held.written(2, 7)
        self.same([held.fetched(1), held.below(2), held.seen(2), held.lines()[2][0]], [(1001, 9), 7, 7, []])
        self.same([held.read(2), whims.taken], [(7, 9), 4])

    def test_the_line_that_is_asked_for_may_go(self):
        held, whims = self.held([("twist", 1), ("whim", 4)], [0, 0, 3, 0, 4])
        self.same([held.read(0), held.read(0), whims.taken], [(1000, 9), (1000, 7), 5])

    def test_other_whims_throw_nothing_out(self):
        held, whims = self.held([("twist", 1)], [0, 1, 4, 5, 8])
        self.same([held.read(0)[1] for _ in range(6)], [9, 1, 1, 1, 1, 1])
        self.same(whims.taken, 6)


class AgainstTheModel(Case):
    def test_words_cycles_lines_and_whims(self):
        dice = random.Random(8)
        for _ in range(60):
            settings = any_settings(dice)
            numbers = [dice.randrange(1000) for _ in range(dice.randrange(200))]
            memory, whims = with_words(), Whims(numbers)
            held, model = Hierarchy(settings, memory, whims), Layers(settings, words_of(memory), numbers)
            for _ in range(60):
                place, word = dice.choice([dice.randrange(40), dice.randrange(960)]), dice.randrange(65536)
                name, given = dice.choice([("read", (place,)), ("fetched", (place,)), ("written", (place, word)),
                                           ("seen", (place,))])
                self.same(getattr(held, name)(*given), getattr(model, name)(*given))
                self.same([held.lines(), whims.taken], [model.lines(), model.taken])
            self.same([held.below(place) for place in range(960)], model.words)
            self.same(words_of(memory), model.words)

    def test_what_was_written_last_is_read_whatever_settings_and_whims(self):
        dice = random.Random(9)
        for _ in range(60):
            settings = any_settings(dice)
            memory, whims = with_words(), Whims([dice.randrange(1000) for _ in range(200)])
            held, last = Hierarchy(settings, memory, whims), words_of(memory)
            most = 1 + sum(settings.value(name) for name in ("wait2", "waitm", "whim"))
            for _ in range(80):
                place, word = dice.choice([dice.randrange(20), dice.randrange(960)]), dice.randrange(65536)
                if dice.random() < 0.4:
                    held.written(place, word)
                    last[place] = word
                else:
                    got, cycles = dice.choice([held.read, held.fetched])(place)
                    self.same(got, last[place])
                    self.assertTrue(1 <= cycles <= most)
                self.always_holds(held, memory)
            self.same([held.seen(place) for place in range(960)], last)
            self.same(words_of(held.memory_seen()), last)
            held.cleaned()
            self.same(words_of(memory), last)

    def always_holds(self, held, memory):
        """[5a6]: words in first caches are those seen, lines that are not written are memory's, none stands twice."""
        for at, sets in enumerate(held.lines()):
            lines = [line for row in sets for line in row]
            self.assertEqual(len({line[0] for line in lines}), len(lines))
            for first, words, is_written in lines:
                for place, word in enumerate(words, start=first):
                    self.assertEqual(word, held.seen(place))
                    if not is_written and at == 2:
                        self.assertEqual(word, memory.word(place))
                self.assertFalse(is_written and at < 2)


class Apart(Case):
    def test_it_goes_by_the_very_memory_and_whims(self):
        memory, whims = with_words(), Whims([0, 1])
        held = Hierarchy(Settings(SMALL + [("whim", 1)]), memory, whims)
        memory.put(5, 9)
        self.same([held.below(5), held.seen(5), held.read(5), whims.taken, whims.take(2), held.read(5)],
                  [9, 9, (9, 9), 1, 1, (9, 1)])

    def test_copies_change_apart(self):
        changes = [lambda one: one.read(2), lambda one: one.fetched(2), lambda one: one.written(0, 9),
                   lambda one: one.cleaned()]
        for change in changes:
            memory, whims = with_words(), Whims([1, 1, 0, 1, 1])
            held = Hierarchy(Settings(SMALL + [("whim", 1)]), memory, whims)
            held.read(0)
            held.fetched(6)
            held.written(4, 7)
            told, taken = held.lines(), whims.taken
            copied = held.copy()
            self.assertIsInstance(copied, Hierarchy)
            self.same(copied.lines(), told)
            change(copied)
            copied.written(8, 5)
            self.same([held.lines(), memory.word(4), memory.word(0), whims.taken], [told, 1004, 1000, taken])
            again, other = held.copy(), held.copy()
            change(held)
            held.written(8, 5)
            self.same(again.lines(), told)
            change(again)
            again.written(8, 5)
            self.same([again.lines(), [again.below(place) for place in range(9)]],
                      [held.lines(), [held.below(place) for place in range(9)]])
            self.same(other.lines(), told)

    def test_a_copy_takes_whims_of_its_own(self):
        whims = Whims([1, 0, 1, 1])
        held = Hierarchy(Settings(SMALL + [("whim", 1)]), Memory(), whims)
        self.same(held.read(0), (0, 10))
        copied = held.copy()
        self.same([copied.read(0), copied.read(0), copied.read(0), whims.taken, held.read(0), held.read(0)],
                  [(0, 1), (0, 2), (0, 2), 1, (0, 1), (0, 2)])

    def test_a_copy_by_other_whims_goes_by_them(self):
        held = Hierarchy(Settings(SMALL + [("whim", 1)]), with_words(), Whims([1, 0, 1, 1]))
        held.read(0)
        whims = Whims([0, 1, 1])
        copied = held.copy_by(whims)
        self.same([copied.read(0), copied.read(0), whims.taken, held.read(0)], [(1000, 1), (1000, 2), 2, (1000, 1)])

    def test_the_memory_that_is_seen_is_new(self):
        held = Hierarchy(Settings(SMALL), with_words(), Whims([]))
        held.written(5, 7)
        held.memory_seen().put(5, 9)
        self.same([held.seen(5), held.below(5), held.memory_seen().word(5), type(held.memory_seen())],
                  [7, 1005, 7, Memory])

    def test_what_is_returned_is_new(self):
        held = Hierarchy(Settings(SMALL), with_words(), Whims([]))
        held.read(0)
        told = held.lines()
        for part in held.lines():
            for row in part:
                for line in row:
                    line[1][0] = 9
                row.clear()
            part.clear()
        self.same(held.lines(), told)

    def test_arguments_by_name(self):
        held = Hierarchy(settings=Settings(SMALL), memory=memory_of([(0, [5])]), whims=Whims([]))
        self.same([held.fetched(place=0), held.read(place=0), held.written(place=0, word=6), held.seen(place=0),
                   held.below(place=0)], [(5, 9), (5, 3), None, 6, 5])


class Refusals(Case):
    def test_parts(self):
        memory, whims, settings = Memory(), Whims([]), Settings([])
        for error, more, call in (
            (InvalidSettings, [Settings, whims, memory, [("line", 2)]], lambda value: Hierarchy(value, memory, whims)),
            (InvalidMemory, [Memory, whims, settings], lambda value: Hierarchy(settings, value, whims)),
            (InvalidWhims, [Whims, memory, settings], lambda value: Hierarchy(settings, memory, value)),
        ):
            self.refused_each(error, "value", NO_OBJECTS + more, call)
        self.refused_in_sequence(Hierarchy, (settings, InvalidSettings, 0), (memory, InvalidMemory, 1),
                                 (whims, InvalidWhims, 2))

    def test_places_and_words_change_nothing(self):
        memory, whims = with_words(), Whims([3, 0, 2, 0, 1] * 20)
        held = Hierarchy(Settings(SMALL + [("twist", 1), ("whim", 4)]), memory, whims)
        held.read(0)
        held.written(2, 5)
        told, taken, words = held.lines(), whims.taken, words_of(memory)
        for call in (held.fetched, held.read, held.seen, held.below, lambda value: held.written(value, 1)):
            self.refused_each(InvalidPlace, "value", NO_MEMORY_PLACES, call)
        self.refused_each(InvalidWord, "value", NO_WORDS, lambda value: held.written(4, value))
        self.refused_in_sequence(held.written, (4, InvalidPlace, 960), (0, InvalidWord, BIG))
        self.same([held.lines(), whims.taken, words_of(memory)], [told, taken, words])

    def test_what_is_none(self):
        self.refused_each(InvalidHierarchy, "value", NO_OBJECTS + [Hierarchy, Memory()], need_hierarchy)


if __name__ == "__main__":
    unittest.main()
