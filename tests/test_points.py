"""Points [9a1]."""

import unittest

from cores import NONE
from kit import (BIG, NO_ADDRESSES, NO_COUNTS, NO_OBJECTS, NO_PLACES, NO_REGISTERS, NO_STRINGS, NO_TUPLES, Case)
from worlds import world

from orderlycore.core import Core
from orderlycore.cycles import run
from orderlycore.errors import InvalidPoint, InvalidPoints, InvalidRow, InvalidRowList
from orderlycore.points import first_met, is_point, meets

FIVE, STOP = (0, 33029, 0, 1, 5, None, None), (1, 51200, 0, None, None, None, None)
STORE = (4095, 65535, 31, 7, 65535, 1023, 0)
POINTS = [("at", 0), ("at", 4095), ("register", 0), ("register", 7), ("place", 0), ("place", 1023), ("cause", 1),
          ("cause", 31)]
NO_CAUSES = NO_COUNTS + [0, 32, 33, BIG]
NO_POINTS = NO_TUPLES + [(), ("at",), ("at", 1, 2), ["at", 1], ("At", 1), ("", 1), ("word", 1), (1, "at"), (None, 1),
                         (("at",), 1), (["at"], 1)]
NO_POINTS += [("at", value) for value in NO_ADDRESSES] + [("register", value) for value in NO_REGISTERS]
NO_POINTS += [("place", value) for value in NO_PLACES] + [("cause", value) for value in NO_CAUSES]
NO_ROWS = NO_TUPLES + [FIVE[:6], FIVE + (None,), (4096,) + FIVE[1:], (0, 1, 32) + NONE, (0, 1, 0, 1, None, None, None)]


class Examples(Case):
    def test_example(self):
        self.same(
            [is_point(("register", 1)), is_point(("cause", 0)), meets(("register", 1), FIVE), meets(("at", 0), STOP),
             first_met([("place", 9), ("at", 1), ("register", 1)], [FIVE, STOP]), first_met([], [FIVE])],
            [True, False, True, False, (0, 2), None],
        )


class Points(Case):
    def test_at_their_ends(self):
        for point in POINTS:
            self.same(is_point(point), True)

    def test_others(self):
        for value in NO_POINTS + NO_STRINGS + NO_OBJECTS:
            self.same(is_point(value), False)


class Meets(Case):
    def test_each_kind(self):
        rows = [FIVE, STOP, STORE, (5, None, 17) + NONE, (7, None, 4) + NONE, (0, 0, 1) + NONE, (3, 9, 0, 0, 0, 0, 0)]
        met = {
            ("at", 0): [0, 5], ("at", 1): [1], ("at", 4095): [2], ("at", 5): [3], ("at", 6): [],
            ("register", 1): [0], ("register", 7): [2], ("register", 0): [6], ("register", 5): [],
            ("place", 1023): [2], ("place", 0): [6], ("place", 5): [],
            ("cause", 31): [2], ("cause", 17): [3], ("cause", 4): [4], ("cause", 1): [5], ("cause", 2): [],
        }
        for point, numbers in met.items():
            self.same([number for number, row in enumerate(rows) if meets(point, row)], numbers)
            for row in rows:
                self.assertIsInstance(meets(point, row), bool)

    def test_by_name(self):
        self.same(meets(point=("at", 0), row=FIVE), True)


class FirstMet(Case):
    def test_the_first_row_then_the_first_point(self):
        rows = [FIVE, STOP, STORE]
        cases = [
            ([("at", 1), ("at", 0)], (0, 1)), ([("at", 1), ("register", 7)], (1, 0)), ([("register", 7)], (2, 0)),
            ([("register", 7), ("place", 1023), ("cause", 31), ("at", 4095)], (2, 0)),
            ([("place", 9), ("cause", 31), ("place", 1023)], (2, 1)), ([("at", 0), ("register", 1)], (0, 0)),
            ([("register", 1), ("at", 0)], (0, 0)), ([("at", 0), ("at", 0)], (0, 0)), ([("at", 77)], None), ([], None),
        ]
        for points, met in cases:
            self.same(first_met(points, rows), met)
            self.same(first_met(tuple(points), tuple(rows)), met)
        self.same([first_met([("at", 0)], []), first_met([], [])], [None, None])

    def test_beside_meets(self):
        for seed in range(8):
            rows = run(Core(*world(seed)), 250, 200)
            for points in ([("at", 70), ("register", 7)], [("place", 640), ("cause", 7), ("place", 641)], [("cause", 8)]):
                found = [(at, position) for at, row in enumerate(rows) for position, point in enumerate(points)
                         if meets(point, row)]
                self.same(first_met(points, rows), found[0] if found else None)

    def test_by_name_and_unchanged(self):
        points, rows = [("at", 1)], [FIVE, STOP]
        self.same([first_met(points=points, rows=rows), points, rows], [(1, 0), [("at", 1)], [FIVE, STOP]])


class Refusals(Case):
    def test_meets(self):
        self.refused_each(InvalidPoint, "value", NO_POINTS, lambda value: meets(value, FIVE))
        self.refused_each(InvalidRow, "value", NO_ROWS, lambda value: meets(("at", 1), value))
        self.refused_in_sequence(meets, (("at", 1), InvalidPoint, ("at", -1)), (FIVE, InvalidRow, list(FIVE)))

    def test_first_met(self):
        no_lists = [value for value in NO_OBJECTS if value not in ([], ())]
        wrong = no_lists + [[("at", 1), value] for value in NO_POINTS] + [("at", 1)]
        self.refused_each(InvalidPoints, "value", wrong, lambda value: first_met(value, [FIVE]))
        wrong = no_lists + [[FIVE, value] for value in NO_ROWS] + [FIVE]
        self.refused_each(InvalidRowList, "value", wrong, lambda value: first_met([("at", 1)], value))
        self.refused_in_sequence(first_met, ([], InvalidPoints, None), ([], InvalidRowList, None))


if __name__ == "__main__":
    unittest.main()
