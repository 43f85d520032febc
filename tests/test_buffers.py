"""Entries of the buffer, entered, stored [5b1], [5b2], [5b4]."""

import random
import unittest

from kit import BIG, NO_COUNTS, NO_MEMORY_PLACES, NO_OBJECTS, NO_PLACES, NO_WORDS, Case
from orderlycore.buffers import Buffer
from orderlycore.errors import InvalidMany, InvalidPage, InvalidPlace, InvalidWord
from orderlycore.memory import Memory
from orderlycore.pages import by_entry, laid, translated

NO_PAGES = NO_COUNTS + [256, 257, 4095, BIG]


def filled(many, entries):
    """A buffer of so many with entries told by their pages; each leans on places of its own."""
    made = Buffer(many)
    for page in entries:
        made.entered(page, page, 300 + page, 40000 + page)
    return made


def pages(buffer):
    return [row[0] for row in buffer.rows()]


class Examples(Case):
    def test_example(self):
        kept = Buffer(2)
        self.same(
            [kept.entered(0, 32, 48, 57354), kept.entered(5, 32, 53, 32829), kept.entered(20, 33, 68, 40971),
             kept.rows(), kept.found(0), kept.stored(53), kept.rows(), kept.most, kept.copy() == kept],
            [None, None, None, [(5, 32, 53, 32829), (20, 33, 68, 40971)], None, None, [(20, 33, 68, 40971)], 2, True],
        )


class Entering(Case):
    def test_at_first_it_is_empty(self):
        for many in (1, 2, 16):
            kept = Buffer(many)
            self.same([kept.most, kept.rows(), kept.found(0)], [many, [], None])

    def test_the_eldest_goes_out(self):
        for many in range(1, 17):
            kept = filled(many, range(20))
            self.same(pages(kept), list(range(20 - many, 20)))

    def test_room_for_one(self):
        kept = filled(1, [3])
        self.same([kept.found(3), kept.entered(4, 1, 2, 3), kept.rows(), kept.entered(4, 5, 6, 7), kept.rows()],
                  [(3, 3, 303, 40003), None, [(4, 1, 2, 3)], None, [(4, 5, 6, 7)]])

    def test_one_page_entered_twice(self):
        kept = filled(3, [1, 2, 3])
        kept.entered(1, 7, 8, 9)
        self.same(kept.rows(), [(2, 2, 302, 40002), (3, 3, 303, 40003), (1, 7, 8, 9)])
        kept.entered(4, 0, 0, 0)
        self.same(pages(kept), [3, 1, 4])
        kept = filled(3, [1, 2])
        kept.entered(2, 7, 8, 9)
        self.same(kept.rows(), [(1, 1, 301, 40001), (2, 7, 8, 9)])

    def test_finding_makes_none_younger(self):
        kept = filled(3, [1, 2, 3])
        self.same([kept.found(1), kept.found(1), kept.entered(4, 4, 4, 4), kept.found(1), pages(kept)],
                  [(1, 1, 301, 40001), (1, 1, 301, 40001), None, None, [2, 3, 4]])

    def test_edges_of_what_is_entered(self):
        kept = Buffer(16)
        for row in ((0, 0, 0, 0), (255, 959, 959, 65535), (7, 5, 5, 32767)):
            kept.entered(*row)
        self.same(kept.rows(), [(0, 0, 0, 0), (255, 959, 959, 65535), (7, 5, 5, 32767)])


class GoingOut(Case):
    def test_stored_at_both_leans_and_beside(self):
        for place, left in ((2, [1, 3]), (302, [1, 3]), (301, [2, 3]), (0, [1, 2, 3]), (4, [1, 2, 3]),
                            (304, [1, 2, 3]), (960, [1, 2, 3]), (1023, [1, 2, 3])):
            kept = filled(3, [1, 2, 3])
            self.same([kept.stored(place), pages(kept)], [None, left])

    def test_stored_at_a_place_of_many(self):
        kept = Buffer(4)
        for page, first, second in ((0, 32, 48), (1, 32, 49), (16, 33, 32), (17, 33, 50)):
            kept.entered(page, first, second, 40000)
        kept.stored(32)
        self.same(pages(kept), [17])

    def test_page_and_word_are_no_leans(self):
        kept = Buffer(2)
        kept.entered(7, 100, 101, 9)
        kept.stored(7)
        kept.stored(9)
        self.same(pages(kept), [7])

    def test_out(self):
        for position, left in ((0, [2, 3]), (1, [1, 3]), (2, [1, 2]), (3, [1, 2, 3]), (BIG, [1, 2, 3])):
            kept = filled(4, [1, 2, 3])
            self.same([kept.out(position), pages(kept)], [None, left])
        kept = Buffer(1)
        self.same([kept.out(0), kept.rows()], [None, []])

    def test_cleared(self):
        kept = filled(4, [1, 2, 3])
        self.same([kept.cleared(), kept.rows(), kept.most, kept.cleared(), kept.found(1)], [None, [], 4, None, None])

    def test_kept_entries_are_right_till_a_word_is_written_at_their_leans(self):
        dice = random.Random(10)
        for _ in range(30):
            memory, kept = Memory(), Buffer(dice.randrange(1, 17))
            frames = dice.sample(range(60), 5)
            laid(memory, frames[0], frames[1:], [(page, dice.randrange(64), dice.randrange(4))
                                                 for page in dice.sample(range(64), 30)])
            for _ in range(60):
                page = dice.randrange(64)
                _, _, leans = translated(memory, frames[0], page * 16, "load", False)
                if len(leans) == 2:
                    kept.entered(page, *leans, memory.word(leans[1]))
                if dice.random() < 0.5:
                    place = dice.choice(frames) * 16 + dice.randrange(16)
                    memory.put(place, dice.choice([dice.randrange(65536), 32768 + dice.choice(frames)]))
                    kept.stored(place)
                for page, first, second, word in kept.rows():
                    self.same(translated(memory, frames[0], page * 16 + 3, "fetch", True),
                              (*by_entry(word, page * 16 + 3, "fetch", True), [first, second]))


class AgainstTheModel(Case):
    def test_all_of_it(self):
        dice = random.Random(11)
        for many in range(1, 17):
            kept, model = Buffer(many), []
            for _ in range(120):
                page, first, second = dice.randrange(20), dice.randrange(8), dice.randrange(8)
                turn = dice.random()
                if turn < 0.6:
                    kept.entered(page, first, second, page + 7)
                    model = ([row for row in model if row[0] != page] + [(page, first, second, page + 7)])[-many:]
                elif turn < 0.75:
                    kept.stored(first)
                    model = [row for row in model if first not in (row[1], row[2])]
                elif turn < 0.9:
                    kept.out(second)
                    model = model[:second] + model[second + 1:]
                self.same(kept.rows(), model)
                self.same(kept.found(page), ([row for row in model if row[0] == page] + [None])[0])


class Apart(Case):
    def test_what_is_returned_is_new(self):
        kept = filled(2, [1])
        kept.rows().clear()
        self.same(pages(kept), [1])

    def test_copies_change_apart(self):
        changes = [lambda one: one.entered(9, 1, 1, 1), lambda one: one.stored(302), lambda one: one.out(0),
                   lambda one: one.cleared(), lambda one: one.entered(1, 1, 301, 40001)]
        self.copies_change_apart(lambda: filled(3, [1, 2, 3]), lambda one: (one.most, one.rows()), changes)

    def test_alike(self):
        self.alike(Buffer(2), Buffer(2))
        self.unlike(Buffer(2), Buffer(3))
        self.unlike(filled(3, [1, 2]), filled(3, [2, 1]))
        self.alike(filled(3, [1, 2]), filled(3, [1, 2]))
        self.unlike(filled(3, [1, 2]), filled(2, [1, 2]))

    def test_other_kinds(self):
        self.unlike(Buffer(2), *NO_OBJECTS, Buffer, Memory(), [])

    def test_arguments_by_name(self):
        kept = Buffer(many=2)
        self.same([kept.entered(page=1, first=2, second=3, word=4), kept.found(page=1), kept.stored(place=9),
                   kept.out(position=5), kept.rows()], [None, (1, 2, 3, 4), None, None, [(1, 2, 3, 4)]])


class Refusals(Case):
    def test_many(self):
        self.refused_each(InvalidMany, "value", NO_COUNTS + [0, 17, 32, BIG], Buffer)

    def test_all_others(self):
        kept = filled(2, [1, 2])
        self.refused_each(InvalidPage, "value", NO_PAGES, kept.found)
        self.refused_each(InvalidPage, "value", NO_PAGES, lambda value: kept.entered(value, 1, 1, 1))
        self.refused_each(InvalidPlace, "value", NO_MEMORY_PLACES, lambda value: kept.entered(1, value, 1, 1))
        self.refused_each(InvalidPlace, "value", NO_MEMORY_PLACES, lambda value: kept.entered(1, 1, value, 1))
        self.refused_each(InvalidWord, "value", NO_WORDS, lambda value: kept.entered(1, 1, 1, value))
        self.refused_in_sequence(kept.entered, (1, InvalidPage, 256), (1, InvalidPlace, 960), (1, InvalidPlace, 961),
                                 (1, InvalidWord, 65536))
        self.refused_each(InvalidPlace, "value", NO_PLACES, kept.stored)
        self.refused_each(InvalidMany, "value", NO_COUNTS, kept.out)
        self.assertTrue(kept == filled(2, [1, 2]))


if __name__ == "__main__":
    unittest.main()
