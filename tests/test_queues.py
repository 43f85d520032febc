"""Load and store queues [7b1] to [7b5]."""

import random
import unittest

from kit import BIG, NO_COUNTS, NO_OBJECTS, NO_PLACES, NO_WORDS, Case
from orderlycore.errors import (HasRead, InvalidMany, InvalidNumber, InvalidPlace, InvalidSource, InvalidWord, IsKnown,
                                NoRoom, NotOldest, UnknownNumber)
from orderlycore.queues import Queues

MEMORY = ("memory",)


def filled(loads, stores, rooms=8):
    """Queues with loads told as (number, place, source), stores as (number, place, word); a None place is unknown."""
    made = Queues(rooms, rooms)
    for number, is_load in sorted([(row[0], True) for row in loads] + [(row[0], False) for row in stores]):
        (made.load_entered if is_load else made.store_entered)(number)
    for number, place, word in stores:
        if place is not None:
            made.known(number, place, word)
    for number, place, source in loads:
        if place is not None:
            made.read(number, place, source)
    return made


def told(queues):
    return queues.loads(), queues.stores(), queues.can_load, queues.can_store


class Examples(Case):
    def test_example(self):
        queues = Queues(2, 2)
        self.same(
            [queues.store_entered(4), queues.load_entered(5), queues.store_entered(7), queues.load_entered(9),
             queues.can_load, queues.source(9, 30), queues.read(9, 30, None), queues.known(7, 30, 8),
             queues.source(5, 30)],
            [None, None, None, None, False, ("memory",), None, 9, ("memory",)],
        )
        self.same(
            [queues.dropped(9), queues.load_entered(10), queues.source(10, 30), queues.read(10, 30, 7),
             queues.known(4, 30, 1), queues.source(5, 30), queues.loads(), queues.leave(4), queues.stores()],
            [None, None, ("store", 7, 8), None, None, ("store", 4, 1), [(5, None, None), (10, 30, 7)], None,
             [(7, 30, 8)]],
        )


class Entering(Case):
    def test_at_first(self):
        for loads, stores in ((1, 1), (1, 8), (8, 1), (4, 4)):
            self.same(told(Queues(loads, stores)), ([], [], True, True))

    def test_room_of_each_queue_by_itself(self):
        for loads, stores in ((1, 1), (1, 8), (8, 1), (8, 8), (2, 3)):
            queues = Queues(loads, stores)
            for number in range(loads):
                self.same([queues.can_load, queues.load_entered(number)], [True, None])
            self.same([queues.can_load, queues.can_store], [False, True])
            for number in range(10, 10 + stores):
                self.same([queues.can_store, queues.store_entered(number)], [True, None])
            full = told(queues)
            self.same(full, ([(number, None, None) for number in range(loads)],
                             [(number, None, None) for number in range(10, 10 + stores)], False, False))
            self.refused(NoRoom, {}, queues.load_entered, 20)
            self.refused(NoRoom, {}, queues.store_entered, 20)
            self.same(told(queues), full)
            queues.leave(0)
            self.same([queues.can_load, queues.can_store, queues.load_entered(20)], [True, False, None])

    def test_numbers_rise_over_both_queues(self):
        queues = filled([(3, None, None)], [(5, None, None)])
        before = told(queues)
        for number in (0, 2, 3, 4, 5):
            self.refused(InvalidNumber, {"value": number}, queues.load_entered, number)
            self.refused(InvalidNumber, {"value": number}, queues.store_entered, number)
        self.same(told(queues), before)
        self.same([queues.load_entered(6), queues.store_entered(BIG)], [None, None])
        self.refused(InvalidNumber, {"value": BIG}, queues.load_entered, BIG)

    def test_numbers_come_again_behind_a_drop(self):
        queues = filled([(3, 9, None)], [(5, 9, 7)])
        queues.dropped(3)
        self.same([queues.store_entered(0), queues.load_entered(3), told(queues)],
                  [None, None, ([(3, None, None)], [(0, None, None)], True, True)])

    def test_a_wrong_number_comes_ahead_of_a_full_queue(self):
        queues = filled([(3, None, None)], [], rooms=1)
        self.refused(InvalidNumber, {"value": 3}, queues.load_entered, 3)
        self.refused(NoRoom, {}, queues.load_entered, 4)


class Sources(Case):
    def test_the_youngest_earlier_known_store_of_the_place(self):
        queues = filled([(1, None, None), (4, None, None), (7, None, None), (9, None, None)],
                        [(0, 30, 5), (2, 31, 6), (3, 30, 7), (5, None, None), (6, 30, 8), (8, 1023, 9)])
        cases = {(1, 30): ("store", 0, 5), (4, 30): ("store", 3, 7), (7, 30): ("store", 6, 8),
                 (9, 30): ("store", 6, 8), (1, 31): MEMORY, (4, 31): ("store", 2, 6), (9, 31): ("store", 2, 6),
                 (9, 32): MEMORY, (9, 1023): ("store", 8, 9), (7, 1023): MEMORY, (9, 0): MEMORY}
        for (number, place), source in cases.items():
            self.same(queues.source(number, place), source)

    def test_stores_that_are_not_known_are_passed_over(self):
        queues = filled([(9, None, None)], [(0, 30, 5), (2, None, None)])
        self.same(queues.source(9, 30), ("store", 0, 5))
        queues.known(2, 30, 6)
        self.same(queues.source(9, 30), ("store", 2, 6))

    def test_stores_that_have_left_or_were_dropped_count_no_more(self):
        queues = filled([(4, None, None)], [(0, 30, 5), (2, 30, 6)])
        queues.leave(0)
        self.same(queues.source(4, 30), ("store", 2, 6))
        queues.leave(2)
        self.same(queues.source(4, 30), MEMORY)
        queues = filled([(4, None, None)], [(0, 30, 5), (5, 30, 6)])
        queues.dropped(5)
        self.same(queues.source(4, 30), ("store", 0, 5))

    def test_asking_changes_nothing(self):
        queues = filled([(4, None, None)], [(0, 30, 5)])
        before = told(queues)
        self.same([queues.source(4, 30), queues.source(4, 30)], [("store", 0, 5)] * 2)
        self.same(told(queues), before)

    def test_a_load_that_has_read_may_be_asked_for(self):
        self.same(filled([(4, 30, None)], [(0, 31, 5)]).source(4, 31), ("store", 0, 5))


class Reading(Case):
    def test_what_is_kept(self):
        queues = filled([(4, None, None), (5, None, None)], [(0, 30, 5)])
        self.same([queues.read(5, 30, 0), queues.loads()], [None, [(4, None, None), (5, 30, 0)]])
        self.same([queues.read(4, 1023, None), queues.loads()], [None, [(4, 1023, None), (5, 30, 0)]])

    def test_any_earlier_known_store_of_the_place_may_be_the_source(self):
        queues = filled([(4, None, None), (6, None, None)], [(0, 30, 5), (1, 30, 6), (2, 31, 7), (3, None, None),
                                                             (5, 30, 8)])
        before = told(queues)
        # Of another place, not known, later, a load, not there.
        for source in (2, 3, 5, 4, 6, 7, 100, BIG):
            self.refused(InvalidSource, {"value": source}, queues.read, 4, 30, source)
        self.refused(InvalidSource, {"value": 0}, queues.read, 4, 31, 0)
        self.same(told(queues), before)
        self.same([queues.read(4, 30, 0), queues.read(6, 30, 5)], [None, None])

    def test_twice(self):
        queues = filled([(4, 30, None)], [(0, 30, 5)])
        before = told(queues)
        self.refused(HasRead, {}, queues.read, 4, 30, None)
        self.refused(HasRead, {}, queues.read, 4, 31, None)
        self.refused(HasRead, {}, queues.read, 4, 30, 0)
        self.refused(InvalidSource, {"value": 4}, queues.read, 4, 30, 4)
        self.same(told(queues), before)

    def test_place_0(self):
        queues = filled([(4, 0, None)], [])
        self.refused(HasRead, {}, queues.read, 4, 0, None)
        self.same(queues.loads(), [(4, 0, None)])


class Known(Case):
    def test_told_once(self):
        queues = filled([], [(0, None, None), (1, None, None)])
        self.same([queues.known(1, 1023, 65535), queues.stores()], [None, [(0, None, None), (1, 1023, 65535)]])
        self.same([queues.known(0, 0, 0), queues.stores()], [None, [(0, 0, 0), (1, 1023, 65535)]])
        for number in (0, 1):
            self.refused(IsKnown, {}, queues.known, number, 3, 3)
        self.refused(InvalidPlace, {"value": 1024}, queues.known, 0, 1024, 3)
        self.same(queues.stores(), [(0, 0, 0), (1, 1023, 65535)])

    def test_the_least_load_that_has_read_too_early(self):
        rows = [(1, 30, None), (4, 31, None), (5, 30, 3), (6, None, None), (7, 30, 0), (8, 30, None), (9, 30, 3)]
        stores = [(0, 30, 5), (2, None, None), (3, 30, 6)]
        # Later than 2, at its place, from memory or from an earlier store: 7 and 8.
        queues = filled(rows, stores)
        self.same(queues.known(2, 30, 9), 7)
        self.same([queues.loads(), queues.stores()], [rows, [(0, 30, 5), (2, 30, 9), (3, 30, 6)]])
        self.same(filled(rows, stores).known(2, 31, 9), 4)
        self.same(filled(rows, stores).known(2, 32, 9), None)

    def test_loads_that_are_earlier_or_have_not_read(self):
        queues = filled([(1, 30, None), (3, None, None)], [(2, None, None)])
        self.same(queues.known(2, 30, 9), None)

    def test_a_load_that_has_read_from_a_store_that_left(self):
        queues = filled([(4, 30, 0)], [(0, 30, 5), (2, None, None), (3, None, None)])
        queues.leave(0)
        self.same([queues.known(3, 30, 9), queues.known(2, 30, 8)], [4, 4])

    def test_a_load_that_has_read_from_a_later_store(self):
        queues = filled([(4, 30, 3)], [(2, None, None), (3, 30, 6)])
        self.same(queues.known(2, 30, 8), None)

    def test_places_of_devices(self):
        self.same(filled([(4, 960, None)], [(2, None, None)]).known(2, 960, 8), 4)


class Leaving(Case):
    def test_the_oldest_of_both(self):
        queues = filled([(1, 30, None), (4, None, None)], [(0, 30, 5), (2, None, None)])
        for number in (1, 2, 4):
            self.refused(NotOldest, {}, queues.leave, number)
        self.same([queues.leave(0), told(queues)],
                  [None, ([(1, 30, None), (4, None, None)], [(2, None, None)], True, True)])
        self.same([queues.leave(1), queues.leave(2), queues.leave(4), told(queues)],
                  [None, None, None, ([], [], True, True)])

    def test_only_what_is_there(self):
        queues = filled([(1, 30, None)], [(0, 30, 5)])
        queues.leave(0)
        for number in (0, 2, BIG):
            self.refused(UnknownNumber, {"value": number}, queues.leave, number)
        self.same(told(queues), ([(1, 30, None)], [], True, True))

    def test_behind_it_smaller_numbers_may_not_come(self):
        queues = filled([(1, 30, None)], [(0, 30, 5)])
        queues.leave(0)
        self.refused(InvalidNumber, {"value": 0}, queues.store_entered, 0)


class Drops(Case):
    def test_from_a_number_on(self):
        loads, stores = [(1, 30, 0), (4, None, None), (6, 31, None)], [(0, 30, 5), (2, None, None), (5, 7, 8)]
        for number in (0, 1, 2, 3, 4, 5, 6, 7, BIG):
            queues = filled(loads, stores)
            self.same(queues.dropped(number), None)
            left = filled([row for row in loads if row[0] < number], [row for row in stores if row[0] < number])
            self.same(told(queues), told(left))
            self.alike(queues, left)

    def test_of_none(self):
        queues = Queues(1, 1)
        queues.dropped(0)
        self.same(told(queues), ([], [], True, True))


class Fact(Case):
    """[7b4]: loads have read what the stores ahead of them left, if no one that stays has read too early."""

    def test_loads_tell_what_the_plain_machine_would_have_read(self):
        dice = random.Random(20)
        early = sources = 0
        for _ in range(300):
            memory, queues = [dice.randrange(9) for _ in range(4)], Queues(8, 8)
            # The program: (is a load, place, word); behind it what the plain machine reads, and leaves in memory.
            program = [(dice.random() < 0.5, dice.randrange(4), dice.randrange(65536)) for _ in range(40)]
            plain, wanted = list(memory), []
            for is_load, place, word in program:
                wanted.append(plain[place] if is_load else None)
                if not is_load:
                    plain[place] = word
            first, entered, got = 0, 0, {}
            while first < len(program):
                turn = dice.random()
                if turn < 0.4 and entered < len(program):
                    is_load = program[entered][0]
                    if queues.can_load if is_load else queues.can_store:
                        (queues.load_entered if is_load else queues.store_entered)(entered)
                        entered += 1
                elif turn < 0.8:
                    loads = [number for number, place, _ in queues.loads() if place is None]
                    stores = [number for number, place, _ in queues.stores() if place is None]
                    if loads + stores:
                        number = dice.choice(loads + stores)
                        _, place, word = program[number]
                        if number in loads:
                            source = queues.source(number, place)
                            sources += source != MEMORY
                            got[number] = memory[place] if source == MEMORY else source[2]
                            queues.read(number, place, None if source == MEMORY else source[1])
                        else:
                            number = queues.known(number, place, word)
                            if number is not None:
                                early += 1
                                queues.dropped(number)
                                entered = number
                elif first < entered:
                    is_load, place, word = program[first]
                    rows = {row[0]: row for row in queues.loads() + queues.stores()}
                    if rows[first][1] is not None:
                        if is_load:
                            self.assertEqual(got[first], wanted[first])
                        else:
                            memory[place] = word
                        queues.leave(first)
                        first += 1
            self.same(memory, plain)
        self.assertGreater(early, 300)
        self.assertGreater(sources, 300)


class Apart(Case):
    def test_copies_change_apart(self):
        changes = [lambda one: one.load_entered(7), lambda one: one.store_entered(7), lambda one: one.known(2, 5, 5),
                   lambda one: one.read(4, 30, 0), lambda one: one.leave(0), lambda one: one.dropped(2)]
        self.copies_change_apart(lambda: filled([(1, 30, None), (4, None, None)], [(0, 30, 5), (2, None, None)]),
                                 told, changes)

    def test_alike(self):
        self.alike(Queues(2, 3), Queues(2, 3))
        self.unlike(Queues(2, 3), Queues(3, 3), Queues(2, 2))
        one = filled([(1, 30, 0)], [(0, 30, 5), (2, None, None)])
        self.alike(one, filled([(1, 30, 0)], [(0, 30, 5), (2, None, None)]))
        self.unlike(one, filled([(1, 30, None)], [(0, 30, 5), (2, None, None)]),
                    filled([(1, 30, 0)], [(0, 30, 6), (2, None, None)]),
                    filled([(1, None, None)], [(0, 30, 5), (2, None, None)]),
                    filled([(1, 30, 0)], [(0, 30, 5), (2, 3, 4)]), filled([(1, 30, 0)], [(0, 30, 5)]),
                    filled([(1, 30, 0), (2, None, None)], [(0, 30, 5)]))

    def test_other_kinds(self):
        self.unlike(Queues(1, 1), *NO_OBJECTS, Queues, told(Queues(1, 1)))

    def test_what_is_returned_is_new(self):
        queues = filled([(1, 30, 0)], [(0, 30, 5)])
        queues.loads().clear()
        queues.stores().clear()
        self.same(told(queues), ([(1, 30, 0)], [(0, 30, 5)], True, True))

    def test_arguments_by_name(self):
        queues = Queues(loads=2, stores=1)
        self.same(
            [queues.store_entered(number=0), queues.load_entered(number=1), queues.known(number=0, place=3, word=4),
             queues.source(number=1, place=3), queues.read(number=1, place=3, source=0), queues.leave(number=0),
             queues.dropped(number=0)],
            [None, None, None, ("store", 0, 4), None, None, None],
        )


class Refusals(Case):
    def setUp(self):
        self.queues = filled([(1, 30, 0), (4, None, None)], [(0, 30, 5), (2, None, None)])
        self.before = told(self.queues)

    def tearDown(self):
        self.same(told(self.queues), self.before)

    def test_rooms(self):
        wrong = NO_COUNTS + [0, 9, 16, BIG]
        self.refused_each(InvalidMany, "value", wrong, lambda value: Queues(value, 1))
        self.refused_each(InvalidMany, "value", wrong, lambda value: Queues(1, value))
        self.refused_in_sequence(Queues, (1, InvalidMany, 0), (1, InvalidMany, 9))

    def test_numbers(self):
        one = self.queues
        self.refused_each(InvalidNumber, "value", NO_COUNTS + [0, 1, 4], one.load_entered)
        self.refused_each(InvalidNumber, "value", NO_COUNTS + [0, 1, 4], one.store_entered)
        self.refused_each(UnknownNumber, "value", NO_COUNTS + [1, 4, 3, 9, BIG], lambda value: one.known(value, 1, 1))
        for call in (lambda value: one.source(value, 1), lambda value: one.read(value, 1, None)):
            self.refused_each(UnknownNumber, "value", NO_COUNTS + [0, 2, 3, 9, BIG], call)
        self.refused_each(UnknownNumber, "value", NO_COUNTS + [3, 9, BIG], one.leave)
        self.refused_each(InvalidNumber, "value", NO_COUNTS, one.dropped)

    def test_places_words_and_sources(self):
        one = self.queues
        self.refused_each(InvalidPlace, "value", NO_PLACES, lambda value: one.known(2, value, 1))
        self.refused_each(InvalidPlace, "value", NO_PLACES, lambda value: one.source(4, value))
        self.refused_each(InvalidPlace, "value", NO_PLACES, lambda value: one.read(4, value, None))
        self.refused_each(InvalidWord, "value", NO_WORDS, lambda value: one.known(2, 1, value))
        wrong = [value for value in NO_COUNTS if value is not None] + [1, 2, 4, 9, BIG]
        self.refused_each(InvalidSource, "value", wrong, lambda value: one.read(4, 30, value))

    def test_in_sequence(self):
        one = self.queues
        self.refused_in_sequence(one.known, (0, UnknownNumber, 1), (3, InvalidPlace, -1), (3, InvalidWord, -1))
        self.refused(IsKnown, {}, one.known, 0, 3, 3)
        self.refused_in_sequence(one.source, (4, UnknownNumber, 2), (3, InvalidPlace, -1))
        self.refused_in_sequence(one.read, (1, UnknownNumber, 2), (30, InvalidPlace, -1), (0, InvalidSource, 1))
        self.refused(HasRead, {}, one.read, 1, 30, 0)


if __name__ == "__main__":
    unittest.main()
