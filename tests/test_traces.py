"""Traces [9b3]."""

import unittest

from cores import NONE
from kit import NO_OBJECTS, Case
from test_points import NO_ROWS
from worlds import world

from orderlycore.core import Core
from orderlycore.cycles import run
from orderlycore.errors import InvalidRow, InvalidRowList
from orderlycore.instructions import encoded, operations
from orderlycore.traces import trace, traced

FIVE = (0, 33029, 0, 1, 5, None, None)


class Examples(Case):
    def test_example(self):
        self.same(
            [traced(FIVE), trace([(2, 29218, 0, None, None, 7, 4), (9, None, 4, None, None, None, None),
                                  (3, 51201, 1, None, None, None, None), (5, None, 17, None, None, None, None)])],
            ["0: lim r1 5 | r1 = 5",
             ["2: st r2 r1 2 | 7 <- 4", "9: no word | trap 4", "3: .word 51201 | trap 1", "5: interrupt 1"]],
        )


class Traced(Case):
    def test_each_part_there_and_not_there(self):
        word = encoded(("addi", 3, 4, -16))
        for register, told_register in (((None, None), ""), ((0, 0), " | r0 = 0"), ((7, 65535), " | r7 = 65535")):
            for place, told_place in (((None, None), ""), ((0, 0), " | 0 <- 0"), ((1023, 65535), " | 1023 <- 65535")):
                for cause, told_cause in ((0, ""), (1, " | trap 1"), (16, " | trap 16"), (31, " | trap 31")):
                    self.same(traced((4095, word, cause) + register + place),
                              "4095: addi r3 r4 -16" + told_register + told_place + told_cause)
                    behind = told_register + told_place + (told_cause if cause < 16 else "")
                    head = "no word" if cause < 16 else f"interrupt {cause - 16}"
                    self.same(traced((0, None, cause) + register + place), f"0: {head}" + behind)

    def test_bad_words(self):
        for word in (0, 1, 2379, 51201, 65535):
            self.same([traced((7, word, 1) + NONE), traced((7, word, 0) + NONE)],
                      [f"7: .word {word} | trap 1", f"7: .word {word}"])

    def test_words_without_operands(self):
        for name in operations()[-3:]:
            self.same(traced((1, encoded((name,)), 0) + NONE), f"1: {name}")
        self.same([traced((1, encoded(("sys", 7)), 8) + NONE), traced((1, encoded(("bz", 0, -5)), 0) + NONE)],
                  ["1: sys 7 | trap 8", "1: bz r0 -5"])

    def test_interrupts(self):
        for cause in range(16, 32):
            self.same(traced((5, None, cause) + NONE), f"5: interrupt {cause - 16}")
        self.same(traced((5, None, 15) + NONE), "5: no word | trap 15")

    def test_random_runs(self):
        for seed in range(8):
            rows = run(Core(*world(seed)), 200, 100)
            self.same(trace(rows), [traced(row) for row in rows])
            self.same(trace(tuple(rows)), trace(rows))
        self.same([trace([]), trace(rows=(FIVE,)), traced(row=FIVE)],
                  [[], ["0: lim r1 5 | r1 = 5"], "0: lim r1 5 | r1 = 5"])


class Refusals(Case):
    def test_all(self):
        self.refused_each(InvalidRow, "value", NO_ROWS, traced)
        wrong = [value for value in NO_OBJECTS if value not in ([], ())] + [[FIVE, value] for value in NO_ROWS] + [FIVE]
        self.refused_each(InvalidRowList, "value", wrong, trace)


if __name__ == "__main__":
    unittest.main()
