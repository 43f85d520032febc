"""Conventions [2], words, addresses, places, registers [5], reckoning [1a1], bits [1a2]."""

import unittest

from kit import BIG, EDGES, NO_COUNTS, NO_INTEGERS, NO_WORDS, Case
from orderlycore.basics import is_count, is_integer
from orderlycore.errors import DividedByNought, InvalidLow, InvalidMany, InvalidWord
from orderlycore.words import (
    bits, both, either, is_address, is_place, is_register, is_word, minus, over, plus, shifted_down,
    shifted_up, signed, times, unlike, with_bits,
)

PAIRS = [plus, minus, times, over, both, either, unlike]
SHIFTS = [shifted_up, shifted_down]


class Examples(Case):
    def test_first_example(self):
        self.same(
            [is_count(True), is_integer(-3), is_word(65536), is_place(1023), plus(65535, 2), minus(0, 1),
             times(300, 300), over(7, 2), signed(65535)],
            [False, True, False, True, 1, 65535, 24464, 3, -1],
        )

    def test_second_example(self):
        self.same(
            [both(12, 10), either(12, 10), unlike(12, 10), shifted_up(3, 15), shifted_down(65535, 12),
             shifted_up(1, 16), bits(43981, 4, 8), with_bits(43981, 0, 4, 2)],
            [8, 14, 6, 32768, 15, 0, 188, 43970],
        )


class Kinds(Case):
    def test_integers(self):
        for value in (0, 1, -1, 65536, BIG, -BIG):
            self.assertIs(is_integer(value), True)
        for value in NO_INTEGERS:
            self.assertIs(is_integer(value), False)

    def test_counts(self):
        for value in (0, 1, 65536, BIG):
            self.assertIs(is_count(value), True)
        for value in NO_COUNTS:
            self.assertIs(is_count(value), False)

    def test_words_addresses_places_registers(self):
        for asked, behind in ((is_word, 65536), (is_address, 4096), (is_place, 1024), (is_register, 8)):
            with self.subTest(asked=asked.__name__):
                for value in (0, 1, behind - 1):
                    self.assertIs(asked(value), True)
                for value in NO_COUNTS + [behind, behind + 1, BIG]:
                    self.assertIs(asked(value), False)


class Reckoning(Case):
    def test_all_pairs_of_edges(self):
        for one in EDGES:
            for other in EDGES:
                with self.subTest(one=one, other=other):
                    self.same(plus(one, other), (one + other) % 65536)
                    self.same(minus(one, other), (one - other) % 65536)
                    self.same(times(one, other), (one * other) % 65536)
                    self.same(both(one, other), one & other)
                    self.same(either(one, other), one | other)
                    self.same(unlike(one, other), one ^ other)
                    if other > 0:
                        self.same(over(one, other), one // other)

    def test_quotient_by_nought(self):
        for one in EDGES:
            self.refused(DividedByNought, {}, over, one, 0)
        self.same(over(0, 65535), 0)

    def test_signed(self):
        for word, number in ((0, 0), (1, 1), (32767, 32767), (32768, -32768), (32769, -32767), (65535, -1)):
            self.same(signed(word), number)

    def test_shifts(self):
        for one in EDGES:
            for many in range(16):
                self.same(shifted_up(one, many), (one * 2 ** many) % 65536)
                self.same(shifted_down(one, many), one // 2 ** many)
            for many in (16, 17, 32, 65535):
                self.same(shifted_up(one, many), 0)
                self.same(shifted_down(one, many), 0)

    def test_shifts_by_fifteen(self):
        self.same([shifted_up(1, 15), shifted_up(2, 15), shifted_down(65535, 15)], [32768, 0, 1])

    def test_arguments_by_name(self):
        self.same([call(one=9, other=4) for call in PAIRS], [13, 5, 36, 2, 0, 13, 13])
        self.same([shifted_up(one=9, many=2), shifted_down(one=9, many=2), signed(word=65535)], [36, 2, -1])


class Bits(Case):
    def test_at_both_ends(self):
        self.same([bits(65535, 0, 16), bits(65534, 0, 1), bits(32768, 15, 1), bits(32767, 15, 1)],
                  [65535, 0, 1, 0])
        self.same([with_bits(0, 15, 1, 1), with_bits(65535, 15, 1, 0), with_bits(65535, 0, 1, 0),
                   with_bits(1, 0, 16, 65534)], [32768, 32767, 65534, 65534])

    def test_all_stretches(self):
        for word in EDGES:
            for low in range(16):
                for many in range(1, 17 - low):
                    self.same(bits(word, low, many), word // 2 ** low % 2 ** many)
                    for value in {0, 1, 2 ** many - 1}:
                        anew = with_bits(word, low, many, value)
                        self.same(bits(anew, low, many), value)
                        aside = 65535 - (2 ** many - 1) * 2 ** low
                        self.assertEqual(anew & aside, word & aside)

    def test_arguments_by_name(self):
        self.same(bits(word=43981, low=4, many=8), 188)
        self.same(with_bits(word=43981, low=0, many=4, value=2), 43970)


class Refusals(Case):
    def test_no_words(self):
        for call in PAIRS:
            self.refused_each(InvalidWord, "value", NO_WORDS, lambda value: call(value, 1))
            self.refused_each(InvalidWord, "value", NO_WORDS, lambda value: call(1, value))
        self.refused_each(InvalidWord, "value", NO_WORDS, signed)
        for call in SHIFTS:
            self.refused_each(InvalidWord, "value", NO_WORDS, lambda value: call(value, 1))
            self.refused_each(InvalidMany, "value", NO_WORDS, lambda value: call(1, value))
        self.refused_each(InvalidWord, "value", NO_WORDS, lambda value: bits(value, 0, 1))
        self.refused_each(InvalidWord, "value", NO_WORDS, lambda value: with_bits(value, 0, 1, 1))

    def test_low(self):
        wrong = NO_COUNTS + [16, 17, BIG]
        self.refused_each(InvalidLow, "value", wrong, lambda value: bits(1, value, 1))
        self.refused_each(InvalidLow, "value", wrong, lambda value: with_bits(1, value, 1, 1))

    def test_many(self):
        for low in range(16):
            wrong = NO_COUNTS + [0, 17 - low, 18 - low, BIG]
            self.refused_each(InvalidMany, "value", wrong, lambda value: bits(1, low, value))
            self.refused_each(InvalidMany, "value", wrong, lambda value: with_bits(1, low, value, 0))

    def test_value(self):
        for many in range(1, 17):
            wrong = NO_COUNTS + [2 ** many, 2 ** many + 1, BIG]
            self.refused_each(InvalidWord, "value", wrong, lambda value: with_bits(1, 0, many, value))

    def test_sequence_of_the_parameters(self):
        for call in PAIRS:
            self.refused(InvalidWord, {"value": "first"}, call, "first", "second")
        self.refused(InvalidWord, {"value": "first"}, over, "first", 0)
        self.refused(InvalidWord, {"value": None}, over, 1, None)
        for call in SHIFTS:
            self.refused(InvalidWord, {"value": "first"}, call, "first", "second")
        self.refused(InvalidWord, {"value": "w"}, bits, "w", "l", "m")
        self.refused(InvalidLow, {"value": "l"}, bits, 1, "l", "m")
        self.refused(InvalidWord, {"value": "w"}, with_bits, "w", "l", "m", "v")
        self.refused(InvalidLow, {"value": "l"}, with_bits, 1, "l", "m", "v")
        self.refused(InvalidMany, {"value": "m"}, with_bits, 1, 2, "m", "v")
        self.refused(InvalidWord, {"value": "v"}, with_bits, 1, 2, 3, "v")


if __name__ == "__main__":
    unittest.main()
