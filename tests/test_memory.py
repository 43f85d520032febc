"""Memory [3a1] and its parts [3a2]."""

import unittest

from kit import BIG, NO_COUNTS, NO_LISTS, NO_TUPLES, NO_WORDS, Case
from orderlycore.errors import InvalidParts, InvalidPlace, InvalidWord
from orderlycore.memory import Memory, memory_of

NO_PLACES = NO_COUNTS + [960, 961, 977, 1023, 1024, BIG]


class Examples(Case):
    def test_words(self):
        memory = Memory()
        self.same(
            [memory.put(3, 7), memory.word(3), memory.word(959), memory.rows(), memory.copy() == memory,
             memory == Memory()],
            [None, 7, 0, [(3, 7)], True, False],
        )

    def test_parts(self):
        self.same(memory_of([(10, [1, 2, 0]), (11, (5,))]).rows(), [(10, 1), (11, 5)])


class Words(Case):
    def test_at_first_all_are_nought(self):
        memory = Memory()
        self.same([memory.word(place) for place in range(960)], [0] * 960)
        self.same(memory.rows(), [])

    def test_a_word_is_put_at_its_place_alone(self):
        for place in (0, 1, 479, 958, 959):
            memory = Memory()
            memory.put(place, 65535)
            self.same([memory.word(other) for other in range(960)],
                      [65535 if other == place else 0 for other in range(960)])
            memory.put(place, 0)
            self.same(memory.rows(), [])
            self.assertTrue(memory == Memory())

    def test_rows_rise(self):
        memory = Memory()
        for place in (959, 0, 500, 20):
            memory.put(place, place + 1)
        self.same(memory.rows(), [(0, 1), (20, 21), (500, 501), (959, 960)])

    def test_what_is_returned_is_new(self):
        memory = memory_of([(3, [7])])
        memory.rows().clear()
        self.same(memory.rows(), [(3, 7)])

    def test_arguments_by_name(self):
        memory = Memory()
        memory.put(place=5, word=6)
        self.same([memory.word(place=5), memory_of(parts=[(5, [6])]) == memory], [6, True])


class Apart(Case):
    def test_copies_change_apart(self):
        memory = memory_of([(3, [7, 8])])
        copied = memory.copy()
        self.assertIsInstance(copied, Memory)
        self.assertTrue(copied == memory)
        memory.put(3, 9)
        copied.put(4, 10)
        self.same([memory.rows(), copied.rows()], [[(3, 9), (4, 8)], [(3, 7), (4, 10)]])
        self.assertFalse(copied == memory)

    def test_memories_do_not_touch_each_other(self):
        Memory().put(3, 7)
        self.same(Memory().rows(), [])

    def test_alike(self):
        one, other = memory_of([(0, [1]), (959, [2])]), memory_of([(959, (2,)), (0, (1, 0))])
        self.assertIs(one == other, True)
        self.assertIs(one != other, False)
        other.put(959, 3)
        self.assertIs(one == other, False)
        self.assertIs(one != other, True)

    def test_other_kinds(self):
        for other in (None, 0, False, "", [], {}, [0] * 960, (0,) * 960, Memory, Memory().rows()):
            self.assertIs(Memory() == other, False)
            self.assertIs(Memory() != other, True)


class Parts(Case):
    def test_none_and_empty_ones(self):
        for parts in ([], (), [(0, [])], [(959, ())], [(5, []), (5, [])]):
            self.assertTrue(memory_of(parts) == Memory())

    def test_to_the_end_of_memory(self):
        self.same(memory_of([(959, [7])]).rows(), [(959, 7)])
        self.same(memory_of(((958, (7, 8)),)).rows(), [(958, 7), (959, 8)])
        self.same(memory_of([(760, [1] * 200)]).rows(), [(place, 1) for place in range(760, 960)])

    def test_later_parts_lie_over_earlier_ones(self):
        self.same(memory_of([(3, [1, 1, 1]), (4, [2])]).rows(), [(3, 1), (4, 2), (5, 1)])
        self.same(memory_of([(4, [2]), (3, [1, 1, 1])]).rows(), [(3, 1), (4, 1), (5, 1)])
        self.same(memory_of([(3, [1, 1]), (3, [0])]).rows(), [(4, 1)])
        self.same(memory_of([(3, [1]), (4, [2])]).rows(), [(3, 1), (4, 2)])

    def test_what_is_passed_stays_and_is_copied(self):
        words = [1, 2]
        parts = [(3, words)]
        memory = memory_of(parts)
        memory.put(3, 9)
        self.same(parts, [(3, [1, 2])])
        words[1] = 8
        parts.clear()
        self.same(memory.rows(), [(3, 9), (4, 2)])


class Refusals(Case):
    def test_places(self):
        memory = memory_of([(3, [7])])
        self.refused_each(InvalidPlace, "value", NO_PLACES, memory.word)
        self.refused_each(InvalidPlace, "value", NO_PLACES, lambda value: memory.put(value, 1))
        self.same(memory.rows(), [(3, 7)])

    def test_words(self):
        memory = memory_of([(3, [7])])
        self.refused_each(InvalidWord, "value", NO_WORDS, lambda value: memory.put(3, value))
        self.same(memory.rows(), [(3, 7)])

    def test_sequence_of_the_parameters(self):
        self.refused(InvalidPlace, {"value": 960}, Memory().put, 960, 65536)
        self.refused(InvalidWord, {"value": 65536}, Memory().put, 959, 65536)

    def test_parts(self):
        wrong = NO_LISTS + [[one] for one in NO_TUPLES + [(), (3,), (3, [1], 2), [3, [1]]]]
        wrong += [[(place, [1])] for place in NO_PLACES] + [[(place, [])] for place in NO_PLACES]
        wrong += [[(3, words)] for words in NO_LISTS] + [[(3, [1, word])] for word in NO_WORDS]
        wrong += [[(959, [1, 2])], [(761, [1] * 200)], [(3, [1]), (959, (1, 2))], (3, [1]), [(3, [[1]])]]
        self.refused_each(InvalidParts, "value", wrong, memory_of)


if __name__ == "__main__":
    unittest.main()
