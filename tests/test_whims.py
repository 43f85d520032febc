"""Whims [1a3]."""

import unittest

from kit import BIG, NO_COUNTS, NO_LISTS, Case
from orderlycore.errors import InvalidMany, InvalidNumbers
from orderlycore.whims import Whims


class Taking(Case):
    def test_example(self):
        whims = Whims([7, 4, 30])
        self.same([whims.take(4), whims.copy().take(3), whims.take(3), whims.take(7), whims.take(9), whims.taken],
                  [3, 1, 1, 2, 0, 4])

    def test_behind_the_last_number_it_is_nought_and_counts(self):
        whims = Whims([])
        self.same([whims.taken, whims.take(1), whims.take(5), whims.take(BIG), whims.taken], [0, 0, 0, 0, 3])

    def test_one_of_one_is_nought_and_takes_a_number(self):
        whims = Whims([9, 8])
        self.same([whims.take(1), whims.take(100), whims.taken], [0, 8, 2])

    def test_modulo(self):
        whims = Whims([1000000, 999999, 5, 5, 5])
        self.same([whims.take(1000001), whims.take(1000), whims.take(5), whims.take(6), whims.take(4)],
                  [1000000, 999, 0, 5, 1])

    def test_by_name(self):
        self.same(Whims(numbers=(5,)).take(many=3), 2)

    def test_two_hundred_numbers(self):
        whims = Whims(list(range(200)))
        self.same([whims.take(1000) for _ in range(201)], list(range(200)) + [0])


class Apart(Case):
    def test_the_list_is_copied_and_stays(self):
        numbers = [1, 2, 3]
        whims = Whims(numbers)
        self.same(whims.take(10), 1)
        self.same(numbers, [1, 2, 3])
        numbers[1] = 9
        numbers.append(4)
        self.same([whims.take(10), whims.take(10), whims.take(10)], [2, 3, 0])

    def test_copies_change_apart(self):
        whims = Whims([1, 2, 3])
        whims.take(10)
        copied = whims.copy()
        self.assertIsInstance(copied, Whims)
        self.same([copied.taken, copied.take(10), copied.take(10), copied.taken, whims.taken], [1, 2, 3, 3, 1])
        self.same([whims.take(10), whims.take(10), whims.take(10), whims.taken, copied.taken], [2, 3, 0, 4, 3])
        self.same([whims.copy().taken, whims.copy().take(3), whims.taken], [4, 0, 4])


class Refusals(Case):
    def test_numbers(self):
        wrong = NO_LISTS + [[1, one] for one in NO_COUNTS + [1000001, BIG]]
        wrong += [(one, -1) for one in (0, 1000000)] + [[[1]], [0] * 201, (0,) * 201]
        self.refused_each(InvalidNumbers, "value", wrong, Whims)

    def test_least_and_greatest(self):
        self.same([Whims([0, 1000000]).take(BIG), Whims((1000000,)).take(BIG), Whims([0] * 200).taken],
                  [0, 1000000, 0])

    def test_a_refused_take_takes_nothing(self):
        for value in NO_COUNTS + [0]:
            with self.subTest(value=value):
                whims = Whims([5, 6])
                self.refused(InvalidMany, {"value": value}, whims.take, value)
                self.same([whims.taken, whims.take(10), whims.taken], [0, 5, 1])

    def test_a_refused_take_behind_the_last_number(self):
        whims = Whims([])
        self.refused(InvalidMany, {"value": 0}, whims.take, 0)
        self.same(whims.taken, 0)


if __name__ == "__main__":
    unittest.main()
