"""Lines, and the least recently used ones [5a1], [5a2]."""

import random
import unittest

from kit import BIG, NO_COUNTS, NO_LISTS, NO_MEMORY_PLACES, NO_OBJECTS, NO_WORDS, Case
from models import Lines
from orderlycore.caches import Cache
from orderlycore.errors import (InvalidLine, InvalidNumber, InvalidPlace, InvalidSets, InvalidWays, InvalidWord,
                                InvalidWords)

LENGTHS = (1, 2, 4, 8, 16)


def filled(line, sets, ways):
    """A cache with all lines from place 0 on, as many as there is room for; the word at a place is it and 100."""
    cache = Cache(line, sets, ways)
    for first in range(0, line * sets * ways, line):
        cache.enter(first, range_of(first, line))
    return cache


def range_of(first, line):
    return [100 + place for place in range(first, first + line)]


class Examples(Case):
    def test_example(self):
        cache = Cache(2, 2, 1)
        self.same(
            [cache.enter(4, [7, 8]), cache.has(5), cache.word(5), cache.put(4, 9, True), cache.lines(),
             cache.enter(1, [1, 2]), cache.has(4), cache.used(6), cache.out_at(0), cache.out_at(1)],
            [None, True, 8, True, [[(4, [9, 8], True)], []], (4, [9, 8], True), False, False, (0, [1, 2], False), None],
        )


class LinesOfPlaces(Case):
    def test_which_places_stand_in_one(self):
        for line in LENGTHS:
            for place in (0, 1, 15, 16, 17, 100, 958, 959):
                cache = Cache(line, 4, 2)
                first = place - place % line
                self.same(cache.enter(place, range_of(first, line)), None)
                told = [100 + one if first <= one < first + line else None for one in range(960)]
                self.same([cache.word(one) for one in range(960)], told)
                self.same([cache.has(one) for one in range(960)], [one is not None for one in told])

    def test_which_set(self):
        for line in LENGTHS:
            for sets in (1, 2, 3, 7, 16):
                for place in (0, 5, 31, 32, 500, 959):
                    cache = Cache(line, sets, 1)
                    cache.enter(place, [0] * line)
                    at = place // line % sets
                    self.same(cache.lines(), [[(place // line * line, [0] * line, False)] if one == at else []
                                              for one in range(sets)])

    def test_an_empty_one(self):
        cache = Cache(4, 3, 2)
        self.same([cache.has(0), cache.word(0), cache.used(0), cache.put(0, 1, True), cache.out(0), cache.out_at(5),
                   cache.lines(), cache.cleaned()], [False, None, False, False, None, None, [[], [], []], []])


class LeastRecentlyUsed(Case):
    def firsts(self, cache):
        return [[line[0] for line in row] for row in cache.lines()]

    def test_entering_and_using(self):
        cache = filled(1, 1, 4)
        self.same(self.firsts(cache), [[0, 1, 2, 3]])
        self.same([cache.used(1), self.firsts(cache)], [True, [[0, 2, 3, 1]]])
        self.same([cache.used(1), cache.used(0), self.firsts(cache)], [True, True, [[2, 3, 1, 0]]])
        self.same([cache.used(9), self.firsts(cache)], [False, [[2, 3, 1, 0]]])
        self.same([cache.enter(9, [5]), self.firsts(cache)], [(2, [102], False), [[3, 1, 0, 9]]])

    def test_what_is_no_use(self):
        cache = filled(2, 1, 3)
        self.same([cache.has(0), cache.word(1), cache.words(0), cache.put(0, 7, True), cache.put(1, 8, False),
                   cache.lines()[0][0][:2], self.firsts(cache)],
                  [True, 101, [100, 101], True, True, (0, [7, 8]), [[0, 2, 4]]])
        self.same(cache.enter(6, [1, 2]), (0, [7, 8], True))

    def test_one_that_is_there_enters_again(self):
        cache = filled(2, 1, 2)
        cache.put(0, 7, True)
        self.same([cache.enter(1, [8, 9]), cache.lines()], [None, [[(2, [102, 103], False), (0, [8, 9], False)]]])

    def test_one_way(self):
        cache = Cache(2, 2, 1)
        self.same([cache.enter(0, [1, 2]), cache.enter(2, [3, 4]), cache.enter(4, [5, 6]), cache.enter(2, [7, 8]),
                   cache.enter(6, [9, 9])], [None, None, (0, [1, 2], False), None, (2, [7, 8], False)])

    def test_sets_are_apart(self):
        cache = filled(1, 2, 2)
        self.same([cache.lines(), cache.enter(4, [0])[0], cache.enter(7, [0])[0], self.firsts(cache)],
                  [[[(0, [100], False), (2, [102], False)], [(1, [101], False), (3, [103], False)]], 0, 1,
                   [[2, 4], [3, 7]]])

    def test_written_ones_go_out(self):
        cache = filled(4, 1, 2)
        cache.put(6, 9, True)
        self.same([cache.enter(8, [0] * 4), cache.enter(12, [0] * 4)],
                  [(0, [100, 101, 102, 103], False), (4, [104, 105, 9, 107], True)])


class Putting(Case):
    def test_written_or_not(self):
        cache = filled(2, 2, 1)
        self.same([cache.put(0, 5, False), cache.lines()[0]], [True, [(0, [5, 101], False)]])
        self.same([cache.put(1, 6, True), cache.lines()[0]], [True, [(0, [5, 6], True)]])
        self.same([cache.put(1, 7, False), cache.lines()[0]], [True, [(0, [5, 7], True)]])
        self.same([cache.put(4, 8, True), cache.lines()], [False, [[(0, [5, 7], True)], [(2, [102, 103], False)]]])

    def test_cleaned(self):
        cache = filled(2, 2, 2)
        for place in (6, 1, 2):
            cache.put(place, 9, True)
        cache.used(2)
        told = [(0, [100, 9], True), (6, [9, 107], True), (2, [9, 103], True)]
        self.same(cache.cleaned(), told)
        self.same(cache.lines(), [[(0, [100, 9], False), (4, [104, 105], False)],
                                  [(6, [9, 107], False), (2, [9, 103], False)]])
        self.same(cache.cleaned(), [])


class GoingOut(Case):
    def test_by_place(self):
        cache = filled(2, 2, 2)
        cache.put(5, 9, True)
        self.same([cache.out(4), cache.has(5), cache.out(5), cache.out(959), cache.lines()],
                  [(4, [104, 9], True), False, None, None,
                   [[(0, [100, 101], False)], [(2, [102, 103], False), (6, [106, 107], False)]]])

    def test_at_a_count(self):
        for number, first in enumerate((0, 3, 6, 1, 4, 7, 2, 5, 8)):
            cache = filled(1, 3, 3)
            self.same([cache.out_at(number), cache.has(first), sum(len(row) for row in cache.lines())],
                      [(first, [100 + first], False), False, 8])
        cache = filled(1, 3, 3)
        cache.used(0)
        self.same([cache.out_at(2), cache.out_at(2), cache.out_at(1), cache.out_at(1), cache.out_at(0),
                   cache.out_at(0)], [(0, [100], False), None, (6, [106], False), None, (3, [103], False), None])


class AgainstTheModel(Case):
    def test_all_sizes(self):
        dice = random.Random(7)
        for line in LENGTHS:
            for sets in (1, 2, 3, 16):
                for ways in (1, 2, 4):
                    self.walk(dice, Cache(line, sets, ways), Lines(line, sets, ways))

    def walk(self, dice, cache, model):
        most = min(960, model.line * model.sets * model.ways * 2 + 3)
        for _ in range(60):
            place, word, number = dice.randrange(most), dice.randrange(65536), dice.randrange(model.sets * model.ways)
            words = [dice.randrange(65536) for _ in range(model.line)]
            name, given = dice.choice([
                ("enter", (place, words)), ("enter", (place, words)), ("used", (place,)), ("has", (place,)),
                ("word", (place,)), ("put", (place, word, dice.random() < 0.5)), ("out", (place,)),
                ("out_at", (number,)), ("cleaned", ()),
            ])
            self.same(getattr(cache, name)(*given), getattr(model, name)(*given))
            self.same(cache.lines(), model.lines())


class Apart(Case):
    def test_lists_are_copied_and_new(self):
        words = [1, 2]
        cache = Cache(2, 1, 1)
        cache.enter(0, words)
        words[0] = 9
        cache.lines()[0][0][1][0] = 9
        cache.lines()[0].clear()
        cache.words(0)[0] = 9
        cache.put(0, 3, True)
        cache.cleaned()[0][1][0] = 9
        self.same([words, cache.lines()], [[9, 2], [[(0, [3, 2], False)]]])
        cache.enter(0, (4, 5))
        self.same(cache.lines(), [[(0, [4, 5], False)]])

    def test_copies_change_apart(self):
        changes = [
            lambda one: one.put(0, 9, False), lambda one: one.put(0, 100, True), lambda one: one.used(0),
            lambda one: one.enter(20, [0, 0]), lambda one: one.out(2), lambda one: one.out_at(3),
            lambda one: one.enter(0, [7, 7]),
        ]
        self.copies_change_apart(lambda: filled(2, 2, 2), lambda one: one.lines(), changes)

        def written():
            cache = filled(2, 2, 2)
            cache.put(4, 9, True)
            return cache

        self.copies_change_apart(written, lambda one: one.lines(), [lambda one: one.cleaned()])

    def test_alike_in_line_sets_and_ways(self):
        one = Cache(2, 2, 2)
        self.unlike(one, Cache(4, 2, 2), Cache(2, 3, 2), Cache(2, 2, 1))
        self.alike(one, Cache(2, 2, 2))
        one.enter(0, [1, 2])
        self.unlike(one, Cache(2, 2, 2))
        one.out(1)
        self.alike(one, Cache(2, 2, 2))

    def test_other_kinds(self):
        self.unlike(Cache(1, 1, 1), *NO_OBJECTS, Cache, [[]])

    def test_arguments_by_name(self):
        cache = Cache(line=2, sets=1, ways=1)
        self.same([cache.enter(place=0, words=[1, 2]), cache.has(place=1), cache.word(place=1), cache.used(place=0),
                   cache.put(place=0, word=5, is_written=True), cache.out(place=9), cache.out_at(number=0)],
                  [None, True, 2, True, True, None, (0, [5, 2], True)])


class Refusals(Case):
    def setUp(self):
        self.cache = filled(2, 2, 2)
        self.cache.put(0, 7, True)
        self.lines = self.cache.lines()

    def tearDown(self):
        self.same(self.cache.lines(), self.lines)

    def test_sizes(self):
        wrong = NO_COUNTS + [0, 3, 5, 15, 17, 32, BIG]
        self.refused_each(InvalidLine, "value", wrong, lambda value: Cache(value, 1, 1))
        self.refused_each(InvalidSets, "value", NO_COUNTS + [0, 17, 32, BIG], lambda value: Cache(1, value, 1))
        self.refused_each(InvalidWays, "value", NO_COUNTS + [0, 5, 16, BIG], lambda value: Cache(1, 1, value))
        self.refused_in_sequence(Cache, (1, InvalidLine, 3), (1, InvalidSets, 0), (1, InvalidWays, 0))
        self.same(len(Cache(16, 16, 4).lines()), 16)

    def test_places(self):
        cache = self.cache
        for call in (cache.has, cache.word, cache.used, cache.out, lambda value: cache.enter(value, [1, 2]),
                     lambda value: cache.put(value, 1, True)):
            self.refused_each(InvalidPlace, "value", NO_MEMORY_PLACES, call)

    def test_words(self):
        cache = self.cache
        self.refused_each(InvalidWord, "value", NO_WORDS, lambda value: cache.put(0, value, True))
        wrong = NO_LISTS + [[], [1], (1,), [1, 2, 3], [[1, 2]]] + [[1, one] for one in NO_WORDS]
        wrong += [(one, 1) for one in NO_WORDS]
        self.refused_each(InvalidWords, "value", wrong, lambda value: cache.enter(0, value))
        self.refused_each(InvalidWords, "value", wrong, lambda value: cache.enter(100, value))
        self.refused_in_sequence(cache.enter, (0, InvalidPlace, 960), ([1, 2], InvalidWords, [1]))
        self.refused(InvalidPlace, {"value": 960}, cache.put, 960, 65536, True)

    def test_numbers(self):
        self.refused_each(InvalidNumber, "value", NO_COUNTS + [4, 5, 16, BIG], self.cache.out_at)


if __name__ == "__main__":
    unittest.main()
