"""Units [7a6], and their drops [7a4]."""

import random
import unittest

from kit import BIG, NO_COUNTS, NO_OBJECTS, Case
from orderlycore.errors import AlreadyThere, InvalidCycles, InvalidNumber, NoNumber
from orderlycore.units import Units

TOLD = [None, 0, True, "", "far", [1], {"a": 1}, (2,), len, Units]


def filled(*rows):
    """Units with rows told as (number, cycles, told)."""
    made = Units()
    for row in rows:
        made.begun(*row)
    return made


def told(units):
    numbers = units.numbers()
    return units.held, numbers, [units.cycles_left(number) for number in numbers]


def aged(units, many):
    for _ in range(many):
        units.aged()
    return units


def all_finished(units):
    """All that is finished now, one behind the other."""
    found = []
    while True:
        one = units.finished()
        if one is None:
            return found
        found.append(one)


class Examples(Case):
    def test_example(self):
        units = Units()
        self.same(
            [units.begun(4, 2, "far"), units.begun(1, 1, "near"), units.finished(), units.aged(), units.finished(),
             units.finished(), units.cycles_left(4), units.aged(), units.finished(), units.held],
            [None, None, None, None, (1, "near"), None, 1, None, (4, "far"), 0],
        )


class Running(Case):
    def test_at_first(self):
        units = Units()
        self.same([told(units), units.finished(), units.aged(), units.finished()], [(0, [], []), None, None, None])

    def test_begun_with_c_cycles_it_is_finished_behind_the_c_th_aging(self):
        for cycles in (1, 2, 3, 8, 16, 31):
            units = filled((5, cycles, "x"))
            for left in range(cycles, 0, -1):
                self.same([told(units), units.finished()], [(1, [5], [left]), None])
                units.aged()
            self.same([told(units), units.finished(), told(units)], [(1, [5], [0]), (5, "x"), (0, [], [])])

    def test_the_greatest_number_of_cycles(self):
        units = filled((0, 10 ** 6, None))
        self.same(units.cycles_left(0), 10 ** 6)
        aged(units, 3)
        self.same([units.cycles_left(0), units.finished()], [999997, None])

    def test_a_row_begun_later_ages_from_then_on(self):
        units = filled((1, 2, "a"))
        units.aged()
        units.begun(2, 2, "b")
        units.aged()
        self.same([all_finished(units), told(units)], [[(1, "a")], (1, [2], [1])])
        units.aged()
        self.same(all_finished(units), [(2, "b")])

    def test_several_that_end_in_one_cycle_go_out_by_their_numbers(self):
        units = filled((7, 2, "c"), (BIG, 2, "d"), (0, 2, "a"), (3, 2, "b"), (5, 3, "e"))
        self.same([all_finished(aged(units, 2)), told(units)],
                  [[(0, "a"), (3, "b"), (7, "c"), (BIG, "d")], (1, [5], [1])])

    def test_what_is_finished_stays_till_it_is_asked_for(self):
        units = filled((7, 1, "c"), (3, 4, "b"))
        aged(units, 3)
        self.same([told(units), units.finished(), told(units)], [(2, [3, 7], [1, 0]), (7, "c"), (1, [3], [1])])
        units = filled((7, 1, "c"), (3, 2, "b"))
        # The least number goes out first, not the one that ended first.
        self.same(all_finished(aged(units, 9)), [(3, "b"), (7, "c")])

    def test_told_values_are_kept_as_they_are(self):
        units = filled(*[(number, 1, value) for number, value in enumerate(TOLD)])
        units.aged()
        for number, value in enumerate(TOLD):
            found = units.finished()
            self.assertIsInstance(found, tuple)
            self.assertEqual(found[0], number)
            self.assertIs(found[1], value)

    def test_numbers_that_come_again(self):
        units = filled((4, 1, "a"))
        self.refused(AlreadyThere, {"number": 4}, units.begun, 4, 3, "b")
        units.aged()
        # It is there as long as it has not gone out.
        self.refused(AlreadyThere, {"number": 4}, units.begun, 4, 3, "b")
        units.finished()
        units.begun(4, 3, "b")
        self.same([told(units), units.dropped(4)], [(1, [4], [3]), [4]])
        units.begun(4, 1, "c")
        units.aged()
        self.same(units.finished(), (4, "c"))

    def test_rows_by_the_time_at_which_they_end(self):
        dice = random.Random(19)
        for _ in range(60):
            units, model, now = Units(), {}, 0
            for _ in range(150):
                turn, number = dice.random(), dice.randrange(30)
                if turn < 0.4 and number not in model:
                    cycles = dice.choice([1, 1, 2, 3, dice.randrange(1, 20)])
                    units.begun(number, cycles, (number, now))
                    model[number] = (now + cycles, (number, now))
                elif turn < 0.7:
                    units.aged()
                    now += 1
                elif turn < 0.95:
                    ended = sorted(one for one in model if model[one][0] <= now)
                    wanted = (ended[0], model.pop(ended[0])[1]) if ended else None
                    self.same(units.finished(), wanted)
                else:
                    gone = sorted((one for one in model if one >= number), reverse=True)
                    self.same(units.dropped(number), gone)
                    model = {one: row for one, row in model.items() if one < number}
                numbers = sorted(model)
                self.same(told(units), (len(model), numbers, [max(model[one][0] - now, 0) for one in numbers]))


class Drops(Case):
    def test_from_a_number_on(self):
        rows = [(2, 3, "a"), (5, 1, "b"), (9, 2, "c")]
        for number, gone in ((0, [9, 5, 2]), (2, [9, 5, 2]), (3, [9, 5]), (5, [9, 5]), (6, [9]), (9, [9]), (10, []),
                             (BIG, [])):
            units = filled(rows[2], rows[0], rows[1])
            self.same(units.dropped(number), gone)
            left = filled(*[row for row in rows if row[0] not in gone])
            self.same(told(units), told(left))
            self.alike(units, left)
        self.same(Units().dropped(0), [])

    def test_ended_ones_go_too(self):
        units = aged(filled((2, 1, "a"), (5, 1, "b")), 1)
        self.same([units.dropped(3), all_finished(units)], [[5], [(2, "a")]])


class Apart(Case):
    def test_copies_change_apart(self):
        changes = [lambda one: one.begun(7, 1, "x"), lambda one: one.aged(), lambda one: one.finished(),
                   lambda one: one.dropped(2)]
        self.copies_change_apart(lambda: aged(filled((1, 1, "a"), (2, 3, [4])), 1), told, changes)

    def test_copied_values_are_the_same(self):
        value = [1]
        copied = filled((3, 1, value)).copy()
        value.append(2)
        self.assertIs(aged(copied, 1).finished()[1], value)

    def test_alike(self):
        self.alike(Units(), Units())
        self.alike(filled((1, 2, [3]), (4, 5, "a")), filled((4, 5, "a"), (1, 2, [3])))
        one = filled((1, 2, [3]))
        self.unlike(one, Units(), filled((1, 3, [3])), filled((1, 2, [4])), filled((2, 2, [3])),
                    filled((1, 2, [3]), (4, 1, [3])))
        self.alike(one, aged(filled((1, 3, [3])), 1))

    def test_other_kinds(self):
        self.unlike(Units(), *NO_OBJECTS, Units, told(Units()))

    def test_what_is_returned_is_new(self):
        units = filled((1, 2, "a"), (2, 3, "b"))
        units.numbers().clear()
        self.same(units.numbers(), [1, 2])

    def test_arguments_by_name(self):
        units = Units()
        self.same([units.begun(number=3, cycles=2, told="x"), units.cycles_left(number=3), units.dropped(number=0)],
                  [None, 2, [3]])


class Refusals(Case):
    def setUp(self):
        self.units = filled((1, 2, "a"), (3, 1, "b"))
        self.before = told(self.units)

    def tearDown(self):
        self.same(told(self.units), self.before)
        self.alike(self.units, filled((1, 2, "a"), (3, 1, "b")))

    def test_begun(self):
        one = self.units
        self.refused_each(InvalidNumber, "value", NO_COUNTS, lambda value: one.begun(value, 1, None))
        self.refused_each(InvalidCycles, "value", NO_COUNTS + [0, 1000001, BIG], lambda value: one.begun(7, value, 1))
        self.refused_in_sequence(lambda number, cycles: one.begun(number, cycles, None), (3, InvalidNumber, -1),
                                 (1, InvalidCycles, 0))
        self.refused(InvalidCycles, {"value": 0}, one.begun, 3, 0, None)
        self.refused(AlreadyThere, {"number": 3}, one.begun, 3, 1, None)

    def test_numbers(self):
        self.refused_each(InvalidNumber, "value", NO_COUNTS, self.units.cycles_left)
        self.refused_each(NoNumber, "value", [0, 2, 4, BIG], self.units.cycles_left)
        self.refused_each(InvalidNumber, "value", NO_COUNTS, self.units.dropped)


if __name__ == "__main__":
    unittest.main()
