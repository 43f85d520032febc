"""Stations [7a5], and their drops [7a4]."""

import random
import unittest

from kit import BIG, NO_COUNTS, NO_LISTS, NO_OBJECTS, Case
from orderlycore.errors import (AlreadyThere, InvalidMany, InvalidNumber, InvalidReads, InvalidTwist, InvalidWhims,
                                NoNumber, NoRoom)
from orderlycore.stations import Stations
from orderlycore.whims import Whims

NO_REGISTER_PLACES = NO_COUNTS + [48, 49, 64, BIG]


def filled(many, *rows):
    """Stations with rows told as (number, reads, ready)."""
    made = Stations(many)
    for row in rows:
        made.put(*row)
    return made


def told(stations):
    numbers = stations.numbers()
    return (stations.many, stations.held, numbers, stations.ready(), [stations.reads(one) for one in numbers],
            [stations.waits_for(one) for one in numbers])


class Examples(Case):
    def test_example(self):
        rows = Stations(3)
        self.same(
            [rows.put(5, [9, 9], []), rows.put(2, [3], [3, 4]), rows.put(6, [], []), rows.ready(),
             rows.chosen(5, Whims([3]), 1), rows.chosen(2, Whims([1]), 1), rows.waits_for(5), rows.woken(9),
             rows.ready(), rows.picked(5), rows.dropped(3)],
            [None, None, None, [2, 6], 6, 2, [9], None, [2, 5, 6], [9, 9], [6]],
        )


class Putting(Case):
    def test_at_first(self):
        for many in (1, 2, 32):
            self.same(told(Stations(many)), (many, 0, [], [], [], []))

    def test_what_is_waited_for(self):
        for reads, ready, waits in (([], [], []), ([], [1, 2], []), ([7], [], [7]), ([7], [7], []),
                                    ([9, 3, 5], [], [3, 5, 9]), ([9, 3, 5], [3], [5, 9]), ([9, 9, 9], [], [9]),
                                    ([9, 3, 9], [9], [3]), ([47, 0], [46, 1], [0, 47]), ([47, 0], [0, 47, 0], [])):
            stations = filled(1, (4, reads, ready))
            self.same([stations.waits_for(4), stations.reads(4), stations.ready()],
                      [waits, reads, [] if waits else [4]])

    def test_rows_in_any_sequence(self):
        stations = filled(4, (9, [1], []), (0, [2], [2]), (BIG, [], []), (3, [4, 5], [4]))
        self.same(told(stations), (4, 4, [0, 3, 9, BIG], [0, BIG], [[2], [4, 5], [1], []], [[], [5], [1], []]))

    def test_room(self):
        stations = filled(2, (1, [], []), (2, [3], []))
        before = told(stations)
        self.refused(NoRoom, {}, stations.put, 3, [], [])
        self.refused(AlreadyThere, {"number": 1}, stations.put, 1, [], [])
        self.refused(AlreadyThere, {"number": 2}, stations.put, 2, [3], [3])
        self.same(told(stations), before)
        stations.picked(1)
        self.refused(AlreadyThere, {"number": 2}, stations.put, 2, [], [])
        stations.put(1, [], [])
        many = filled(32, *[(number, [number], []) for number in range(32)])
        self.refused(NoRoom, {}, many.put, 32, [], [])
        self.same(many.held, 32)

    def test_forty_eight_ready_places(self):
        stations = filled(2, (1, [0, 24, 47], list(range(48))), (2, (0,), (1,) * 48))
        self.same([stations.ready(), stations.reads(2)], [[1], [0]])


class Waking(Case):
    def test_rows_that_wait_for_several(self):
        stations = filled(3, (1, [5, 6, 7], []), (2, [6], []), (3, [7, 5], [5]))
        told_waits = []
        for at in (6, 6, 0, 7, 5):
            self.same(stations.woken(at), None)
            told_waits.append([stations.waits_for(one) for one in (1, 2, 3)] + [stations.ready()])
        self.same(told_waits, [
            [[5, 7], [], [7], [2]], [[5, 7], [], [7], [2]], [[5, 7], [], [7], [2]], [[5], [], [], [2, 3]],
            [[], [], [], [1, 2, 3]],
        ])

    def test_woken_ahead_counts_for_nothing(self):
        stations = Stations(2)
        stations.woken(5)
        stations.put(1, [5], [])
        self.same([stations.waits_for(1), stations.ready()], [[5], []])
        stations.woken(5)
        stations.put(2, [5], [])
        self.same([stations.waits_for(1), stations.waits_for(2), stations.ready()], [[], [5], [1]])

    def test_reads_stay_as_they_were_put(self):
        stations = filled(1, (1, [9, 3, 9], []))
        stations.woken(9)
        stations.woken(3)
        self.same([stations.reads(1), stations.picked(1)], [[9, 3, 9], [9, 3, 9]])

    def test_ready_exactly_if_each_place_was_ready_or_has_been_woken_since(self):
        dice = random.Random(18)
        for _ in range(40):
            many = dice.choice([1, 3, 8, 32])
            stations, model = Stations(many), {}
            for _ in range(120):
                number, turn = dice.randrange(40), dice.random()
                at = dice.choice([dice.randrange(6), dice.randrange(48)])
                if turn < 0.4 and number not in model and len(model) < many:
                    reads = [dice.randrange(6) for _ in range(dice.randrange(4))]
                    ready = [dice.randrange(6) for _ in range(dice.randrange(4))]
                    stations.put(number, reads, ready)
                    model[number] = (reads, set(ready))
                elif turn < 0.75:
                    before = {one: len(stations.waits_for(one)) for one in model}
                    stations.woken(at)
                    for one, (_, awake) in model.items():
                        awake.add(at)
                        self.assertTrue(len(stations.waits_for(one)) <= before[one])
                elif turn < 0.95 and model:
                    number = dice.choice(sorted(model))
                    self.same(stations.picked(number), model.pop(number)[0])
                elif turn > 0.98:
                    gone = sorted((one for one in model if one >= number), reverse=True)
                    self.same(stations.dropped(number), gone)
                    model = {one: row for one, row in model.items() if one < number}
                numbers = sorted(model)
                waits = [sorted(set(model[one][0]) - model[one][1]) for one in numbers]
                ready = [one for one, wait in zip(numbers, waits) if not wait]
                reads = [model[one][0] for one in numbers]
                self.same(told(stations), (many, len(model), numbers, ready, reads, waits))


class Choosing(Case):
    def choose(self, oldest, numbers, twist):
        """Of rows of which 2, 5, 6 and 9 are ready and 1 and 7 are not: the chosen one, and how many whims went."""
        stations = filled(6, (9, [], []), (1, [4], []), (5, [4], [4]), (2, [], []), (7, [1], []), (6, [], []))
        before, whims = told(stations), Whims(numbers)
        chosen = stations.chosen(oldest, whims, twist)
        self.same(told(stations), before)
        return chosen, whims.taken

    def test_without_twist_the_least_number(self):
        for oldest in (None, 0, 1, 2, 5, 6, 7, 9, 100, BIG):
            self.same(self.choose(oldest, [3, 2], 0), (2, 0))

    def test_with_twist_by_a_whim_from_the_least_on(self):
        for oldest in (None, 0, 1, 3, 7, 100):
            for number, chosen in ((0, 2), (1, 5), (2, 6), (3, 9), (4, 2), (1000000, 2), (7, 9)):
                self.same(self.choose(oldest, [number, 1], 1), (chosen, 1))
            self.same(self.choose(oldest, [], 1), (2, 1))

    def test_the_oldest_in_flight_takes_no_whim(self):
        for oldest in (2, 5, 6, 9):
            self.same(self.choose(oldest, [3, 2], 1), (oldest, 0))

    def test_with_no_ready_row(self):
        for stations in (Stations(2), filled(2, (1, [4], []))):
            for twist in (0, 1):
                whims = Whims([3])
                self.same([stations.chosen(1, whims, twist), stations.chosen(None, whims, twist), whims.taken],
                          [None, None, 0])

    def test_a_lone_ready_row(self):
        stations, whims = filled(2, (4, [], []), (3, [9], [])), Whims([5])
        self.same([stations.chosen(3, whims, 1), whims.taken, stations.chosen(4, whims, 1), whims.taken], [4, 1, 4, 1])


class GoingOut(Case):
    def test_picked(self):
        stations = filled(3, (1, [5, 6], []), (2, [7], [7]), (3, [], []))
        self.same([stations.picked(1), stations.numbers(), stations.picked(3), stations.held, stations.ready()],
                  [[5, 6], [2, 3], [], 1, [2]])
        for call in (stations.picked, stations.reads, stations.waits_for):
            self.refused(NoNumber, {"value": 1}, call, 1)

    def test_drops(self):
        for number, gone in ((0, [9, 5, 2]), (2, [9, 5, 2]), (3, [9, 5]), (5, [9, 5]), (6, [9]), (9, [9]), (10, []),
                             (BIG, [])):
            stations = filled(4, (5, [1], []), (9, [2], [2]), (2, [3, 4], []))
            self.same(stations.dropped(number), gone)
            left = [row for row in ((2, [3, 4], []), (5, [1], []), (9, [2], [2])) if row[0] not in gone]
            self.same(told(stations), told(filled(4, *left)))
            self.alike(stations, filled(4, *left))
        self.same(Stations(1).dropped(0), [])

    def test_a_number_comes_again_behind_a_drop(self):
        stations = filled(2, (1, [5], []), (2, [6], []))
        stations.dropped(2)
        stations.put(2, [7], [])
        stations.woken(6)
        self.same([stations.waits_for(2), stations.reads(2)], [[7], [7]])


class Apart(Case):
    def test_copies_change_apart(self):
        changes = [lambda one: one.put(7, [], []), lambda one: one.woken(5), lambda one: one.picked(2),
                   lambda one: one.dropped(2)]
        self.copies_change_apart(lambda: filled(4, (1, [5, 6], []), (2, [7], [7])), told, changes)

    def test_alike(self):
        self.alike(Stations(2), Stations(2))
        self.unlike(Stations(2), Stations(3))
        one = filled(2, (1, [5], []), (2, [6], []))
        self.alike(one, filled(2, (2, [6], []), (1, [5], [])))
        self.unlike(one, filled(2, (1, [5], [5]), (2, [6], [])))
        self.unlike(one, filled(2, (1, [5], []), (3, [6], [])))
        self.unlike(one, filled(2, (1, [5], []), (2, [6, 7], [7])))
        self.unlike(one, filled(2, (1, [5], [])))
        # What was woken tells the same as what was ready.
        one.woken(5)
        self.alike(one, filled(2, (1, [5], [5]), (2, [6], [])))

    def test_other_kinds(self):
        self.unlike(Stations(1), *NO_OBJECTS, Stations, told(Stations(1)))

    def test_lists_are_copied_and_new(self):
        reads, ready = [5, 6], [6]
        stations = filled(2, (1, reads, ready))
        before = told(stations)
        for one in (stations.reads(1), stations.waits_for(1), stations.numbers(), stations.ready()):
            one.clear()
        self.same([reads, ready, told(stations)], [[5, 6], [6], before])
        reads.append(7)
        ready.clear()
        self.same(told(stations), before)
        copied = stations.copy()
        stations.picked(1).clear()
        self.same(told(copied), before)
        stations.put(1, (5, 6), (6,))
        self.same(told(stations), before)

    def test_arguments_by_name(self):
        stations = Stations(many=2)
        self.same(
            [stations.put(number=1, reads=[5], ready=[]), stations.woken(at=5), stations.waits_for(number=1),
             stations.reads(number=1), stations.chosen(oldest=None, whims=Whims([]), twist=0),
             stations.picked(number=1), stations.dropped(number=0)],
            [None, None, [], [5], 1, [5], []],
        )


class Refusals(Case):
    def setUp(self):
        self.stations = filled(2, (1, [5], []), (2, [], []))
        self.before = told(self.stations)
        self.whims = Whims([3, 3])

    def tearDown(self):
        self.same(told(self.stations), self.before)
        self.same(self.whims.taken, 0)

    def test_many(self):
        self.refused_each(InvalidMany, "value", NO_COUNTS + [0, 33, 64, BIG], Stations)

    def test_put(self):
        one = self.stations
        self.refused_each(InvalidNumber, "value", NO_COUNTS, lambda value: one.put(value, [], []))
        wrong = NO_LISTS + [[1, at] for at in NO_REGISTER_PLACES] + [(at,) for at in NO_REGISTER_PLACES] + [[[1]]]
        self.refused_each(InvalidReads, "value", wrong + [[1] * 4, (1, 2, 3, 4)], lambda value: one.put(3, value, []))
        self.refused_each(InvalidReads, "value", wrong + [[1] * 49], lambda value: one.put(3, [1], value))
        self.refused_in_sequence(one.put, (1, InvalidNumber, -1), ([], InvalidReads, [48]), ([], InvalidReads, [49]))
        self.refused(AlreadyThere, {"number": 1}, one.put, 1, [], [])
        self.refused(NoRoom, {}, one.put, 3, [], [])

    def test_woken(self):
        self.refused_each(InvalidReads, "value", NO_REGISTER_PLACES, self.stations.woken)

    def test_numbers(self):
        one = self.stations
        for call in (one.waits_for, one.reads, one.picked):
            self.refused_each(InvalidNumber, "value", NO_COUNTS, call)
            self.refused_each(NoNumber, "value", [0, 3, 100, BIG], call)
        self.refused_each(InvalidNumber, "value", NO_COUNTS, one.dropped)

    def test_chosen(self):
        one, whims = self.stations, self.whims
        no_numbers = [value for value in NO_COUNTS if value is not None]
        self.refused_each(InvalidNumber, "value", no_numbers, lambda value: one.chosen(value, whims, 1))
        self.refused_each(InvalidWhims, "value", NO_OBJECTS + [Whims, [3]], lambda value: one.chosen(1, value, 1))
        self.refused_each(InvalidTwist, "value", NO_COUNTS + [2, 3, BIG], lambda value: one.chosen(1, whims, value))
        self.refused_in_sequence(one.chosen, (1, InvalidNumber, -1), (whims, InvalidWhims, 1), (1, InvalidTwist, 2))


if __name__ == "__main__":
    unittest.main()
