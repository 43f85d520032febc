"""In flight, things, room, drops [7a1] to [7a4]."""

import random
import unittest

from kit import BIG, NO_COUNTS, NO_OBJECTS, Case
from orderlycore.errors import InvalidMany, InvalidNumber, NoNumber, NoRoom, NotDone, NotOpen
from orderlycore.orders import Orders

THINGS = [None, 0, True, "", "one", [1], {"a": 1}, (2,), len, Orders]


def told(orders):
    numbers = orders.numbers()
    return (orders.many, orders.held, orders.upcoming, numbers, orders.oldest(),
            [orders.thing(number) for number in numbers], [orders.is_done(number) for number in numbers])


def filled(many, things, dones=()):
    orders = Orders(many)
    for thing in things:
        orders.entered(thing)
    for number in dones:
        orders.done(number)
    return orders


def one_left():
    """Orders of which one thing left; the next one is done, too."""
    orders = filled(4, "zabc", [0, 1])
    orders.left()
    return orders


class Examples(Case):
    def test_example(self):
        orders = Orders(2)
        self.same(
            [orders.entered("one"), orders.entered("two"), orders.done(1), orders.done(0), orders.left(),
             orders.entered("three"), orders.numbers(), orders.dropped(2), orders.upcoming, orders.is_done(1),
             orders.left(), orders.upcoming],
            [0, 1, None, None, (0, "one"), 2, [1, 2], [(2, "three")], 2, True, (1, "two"), 2],
        )


class Numbers(Case):
    def test_at_first(self):
        for many in (1, 2, 32):
            self.same(told(Orders(many)), (many, 0, 0, [], None, [], []))

    def test_they_follow_one_another(self):
        orders = Orders(32)
        self.same([orders.entered(None) for _ in range(32)], list(range(32)))
        self.same([orders.held, orders.upcoming, orders.numbers(), orders.oldest()], [32, 32, list(range(32)), 0])

    def test_behind_the_last_one_that_left(self):
        orders = Orders(1)
        for number in range(5):
            self.same([orders.oldest(), orders.upcoming, orders.entered(number), orders.done(number), orders.left()],
                      [None, number, number, None, (number, number)])
        self.same(told(orders), (1, 0, 5, [], None, [], []))

    def test_they_come_again_behind_a_drop(self):
        orders = filled(4, "abcd")
        self.same([orders.dropped(2), orders.upcoming, orders.entered("e"), orders.thing(2), orders.is_done(2)],
                  [[(3, "d"), (2, "c")], 2, 2, "e", False])
        self.same([orders.dropped(0), orders.upcoming, orders.oldest(), orders.entered("f"), orders.thing(0)],
                  [[(2, "e"), (1, "b"), (0, "a")], 0, None, 0, "f"])

    def test_if_none_is_in_flight_behind_a_drop(self):
        orders = filled(4, "abcd", [0, 1])
        orders.left()
        orders.left()
        self.same([orders.dropped(0), orders.upcoming, orders.entered("x"), orders.numbers()],
                  [[(3, "d"), (2, "c")], 2, 2, [2]])


class Things(Case):
    def test_any_values_are_kept_as_they_are(self):
        orders = filled(32, THINGS)
        for number, thing in enumerate(THINGS):
            self.assertIs(orders.thing(number), thing)
            orders.done(number)
        for number, thing in enumerate(THINGS):
            left = orders.left()
            self.assertIsInstance(left, tuple)
            self.assertEqual(left[0], number)
            self.assertIs(left[1], thing)

    def test_dropped_ones_are_the_same(self):
        gone = filled(32, THINGS).dropped(0)
        for (number, thing), wanted in zip(gone, reversed(list(enumerate(THINGS)))):
            self.assertEqual(number, wanted[0])
            self.assertIs(thing, wanted[1])

    def test_another_thing_under_a_number(self):
        orders = filled(3, "abc", [1])
        copied, thing = orders.copy(), [7]
        self.same([orders.changed(1, thing), orders.thing(0), orders.is_done(1), copied.thing(1)], [None, "a", True, "b"])
        self.assertIs(orders.thing(1), thing)
        for number in (3, BIG):
            self.refused(NoNumber, {"value": number}, orders.changed, number, "x")
        self.same(orders.dropped(0), [(2, "c"), (1, [7]), (0, "a")])

    def test_open_till_done(self):
        orders = filled(3, "abc")
        self.same([orders.is_done(1), orders.done(1), orders.is_done(1), orders.is_done(0), orders.is_done(2)],
                  [False, None, True, False, False])
        self.refused(NotOpen, {}, orders.done, 1)
        self.same(told(orders)[6], [False, True, False])

    def test_the_oldest_leaves_if_it_is_done(self):
        orders = filled(3, "abc", [1, 2])
        self.refused(NotDone, {}, orders.left)
        self.same(told(orders), (3, 3, 3, [0, 1, 2], 0, ["a", "b", "c"], [False, True, True]))
        orders.done(0)
        self.same([orders.left(), orders.left(), orders.left()], [(0, "a"), (1, "b"), (2, "c")])
        self.refused(NotDone, {}, orders.left)
        self.refused(NotDone, {}, Orders(1).left)

    def test_things_leave_in_the_sequence_in_which_they_were_entered(self):
        dice = random.Random(17)
        for many in (1, 2, 3, 8, 32):
            orders, entered, left, fresh = Orders(many), [], [], 0
            for _ in range(400):
                turn = dice.random()
                if turn < 0.4 and orders.held < many:
                    number = orders.entered(fresh)
                    self.assertEqual(number, len(entered))
                    entered.append(fresh)
                    fresh += 1
                elif turn < 0.7 and not all(told(orders)[6]):
                    orders.done(dice.choice([one for one in orders.numbers() if not orders.is_done(one)]))
                elif turn < 0.9 and orders.held and orders.is_done(orders.oldest()):
                    number, thing = orders.left()
                    self.assertEqual(number, len(left))
                    left.append(thing)
                elif turn > 0.97:
                    number = dice.randrange(len(left), len(entered) + 2)
                    gone = orders.dropped(number)
                    self.same(gone, [(at, entered[at]) for at in range(len(entered) - 1, number - 1, -1)])
                    entered = entered[:number]
                self.same(left, entered[:len(left)])
                self.same([orders.numbers(), orders.upcoming], [list(range(len(left), len(entered))), len(entered)])
                self.same(told(orders)[5], entered[len(left):])
                self.assertTrue(orders.held <= many)


class Room(Case):
    def test_full_ones(self):
        for many in (1, 2, 32):
            orders = filled(many, range(many))
            before = told(orders)
            self.refused(NoRoom, {}, orders.entered, "more")
            self.same(told(orders), before)
            orders.done(0)
            self.refused(NoRoom, {}, orders.entered, "more")
            orders.left()
            self.same([orders.entered("more"), orders.numbers()], [many, list(range(1, many + 1))])


class Drops(Case):
    def test_from_the_least_the_greatest_and_beyond(self):
        for number, left in ((0, 0), (1, 0), (2, 0), (3, 1), (4, 2), (5, 3), (6, 4), (7, 4), (100, 4), (BIG, 4)):
            orders = filled(6, "abcdef", [0, 1, 3])
            orders.left()
            orders.left()
            self.same(orders.dropped(number), [(at, "abcdef"[at]) for at in range(5, 1 + left, -1)])
            self.same(told(orders), (6, left, 2 + left, list(range(2, 2 + left)), 2 if left else None,
                                     list("cdef")[:left], [False, True, False, False][:left]))

    def test_of_none(self):
        orders = Orders(3)
        self.same([orders.dropped(0), orders.dropped(9), orders.upcoming], [[], [], 0])

    def test_behind_it_they_are_as_if_what_went_had_never_come(self):
        orders, other = filled(4, "abcd", [0, 3]), filled(4, "ab", [0])
        orders.dropped(2)
        self.alike(orders, other)
        self.same([orders.left(), orders.entered("x"), other.left(), other.entered("x")], [(0, "a"), 2, (0, "a"), 2])
        self.alike(orders, other)


class Apart(Case):
    def test_copies_change_apart(self):
        changes = [lambda one: one.entered("x"), lambda one: one.done(2), lambda one: one.left(),
                   lambda one: one.dropped(2)]
        self.copies_change_apart(one_left, told, changes)

    def test_copied_things_are_the_same(self):
        thing = [1]
        copied = filled(2, [thing]).copy()
        self.assertIs(copied.thing(0), thing)
        thing.append(2)
        self.same(copied.dropped(0), [(0, [1, 2])])

    def test_alike(self):
        self.alike(Orders(2), Orders(2))
        self.unlike(Orders(2), Orders(3))
        self.alike(filled(3, ["a", [1]]), filled(3, ["a", [1]]))
        self.unlike(filled(3, ["a", [1]]), filled(3, ["a", [2]]))
        self.unlike(filled(3, ["a", "b"]), filled(3, ["a"]))
        self.unlike(filled(3, ["a", "b"], [0]), filled(3, ["a", "b"], [1]))
        one, other = filled(3, ["a"], [0]), Orders(3)
        one.left()
        self.unlike(one, other)

    def test_other_kinds(self):
        self.unlike(Orders(1), *NO_OBJECTS, Orders, told(Orders(1)))

    def test_what_is_returned_is_new(self):
        orders = filled(3, "abc")
        orders.numbers().clear()
        self.same(orders.numbers(), [0, 1, 2])

    def test_arguments_by_name(self):
        orders = Orders(many=2)
        self.same([orders.entered(thing="a"), orders.thing(number=0), orders.is_done(number=0), orders.done(number=0),
                   orders.dropped(number=0)], [0, "a", False, None, [(0, "a")]])


class Refusals(Case):
    def test_many(self):
        self.refused_each(InvalidMany, "value", NO_COUNTS + [0, 33, 64, BIG], Orders)

    def test_numbers(self):
        orders = filled(4, "abc", [0, 1])
        orders.left()
        before = told(orders)
        for call in (orders.thing, orders.is_done, orders.done):
            self.refused_each(InvalidNumber, "value", NO_COUNTS, call)
            self.refused_each(NoNumber, "value", [0, 3, 4, 100, BIG], call)
        self.refused_each(InvalidNumber, "value", NO_COUNTS, orders.dropped)
        self.same(told(orders), before)


if __name__ == "__main__":
    unittest.main()
