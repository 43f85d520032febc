"""Cells, lendings, undone and kept, what always holds, its meaning [6b1] to [6b5]."""

import random
import unittest

from kit import BIG, NO_COUNTS, NO_OBJECTS, NO_REGISTERS, NO_WORDS, Case
from orderlycore.errors import (InvalidCell, InvalidMany, InvalidRegister, InvalidWord, NotNewest, NotOldest, NotReady,
                                NotWaiting, NothingFree, StillLent)
from orderlycore.renames import Renamer


def lent_all(many):
    """A renamer whose free cells are all lent, for the registers 0, 1, 2 .. in turn; and the lendings."""
    renamer = Renamer(many)
    lendings = []
    for turn in range(many - 8):
        lendings.append((turn % 8, *renamer.lent(turn % 8)))
    return renamer, lendings


def lent_thrice():
    """A renamer that has kept a lending of the register 0, and has two more open, of 1 and 2."""
    renamer = Renamer(12)
    renamer.lent(0)
    renamer.put(8, 4)
    renamer.kept(0, 8, 0)
    renamer.lent(1)
    renamer.lent(2)
    return renamer


class Examples(Case):
    def test_example(self):
        renamer = Renamer(10)
        self.same(
            [renamer.lent(3), renamer.lent(3), renamer.can_lend, renamer.put(8, 70), renamer.kept(3, 8, 3),
             renamer.kept_words(), renamer.writes(), renamer.free()],
            [(8, 3), (9, 8), False, None, None, [0, 0, 0, 70, 0, 0, 0, 0], [(3, None)], [3]],
        )
        self.same(
            [renamer.undone(3, 9, 8), renamer.place_of(3), renamer.free(), renamer.is_ready(9), renamer.value(8),
             renamer.lent(0), renamer.lendings(), renamer.told()[2]],
            [None, 8, [9, 3], False, 70, (9, 0), [(0, 9, 0)], (3,)],
        )


class Cells(Case):
    def test_at_first(self):
        for many in (9, 10, 16, 48):
            renamer = Renamer(many)
            self.same(renamer.told(), (tuple(range(8)), tuple(range(8)), tuple(range(8, many)), (),
                                       (0,) * 8 + (None,) * (many - 8)))
            self.same([renamer.place_of(which) for which in range(8)], list(range(8)))
            self.same([renamer.is_ready(at) for at in range(many)], [at < 8 for at in range(many)])
            self.same([renamer.kept_words(), renamer.writes(), renamer.lendings(), renamer.free(), renamer.can_lend],
                      [[0] * 8, [], [], list(range(8, many)), True])

    def test_ready_waiting_and_free(self):
        renamer = Renamer(10)
        renamer.lent(5)
        self.same([renamer.is_ready(at) for at in (5, 8, 9)], [True, False, False])
        self.refused(NotReady, {}, renamer.value, 8)
        self.refused(NotReady, {}, renamer.value, 9)
        self.refused(NotWaiting, {}, renamer.put, 9, 1)
        self.refused(NotWaiting, {}, renamer.put, 5, 1)
        self.same([renamer.put(8, 65535), renamer.is_ready(8), renamer.value(8), renamer.value(5)],
                  [None, True, 65535, 0])
        self.refused(NotWaiting, {}, renamer.put, 8, 1)
        self.same([renamer.value(8), renamer.told()[4]], [65535, (0,) * 8 + (65535, None)])

    def test_a_word_of_nought_is_ready_too(self):
        renamer = Renamer(9)
        renamer.lent(0)
        renamer.put(8, 0)
        self.same([renamer.is_ready(8), renamer.value(8), renamer.writes(), renamer.told()[4][8]],
                  [True, 0, [(0, 0)], 0])
        self.refused(NotWaiting, {}, renamer.put, 8, 0)


class Lending(Case):
    def test_one_free_cell(self):
        renamer = Renamer(9)
        self.same([renamer.lent(7), renamer.can_lend, renamer.place_of(7), renamer.free()], [(8, 7), False, 8, []])
        told = renamer.told()
        for which in range(8):
            self.refused(NothingFree, {}, renamer.lent, which)
        self.same(renamer.told(), told)

    def test_forty_of_them(self):
        renamer, lendings = lent_all(48)
        self.same(lendings, [(turn % 8, turn + 8, turn) for turn in range(40)])
        self.same([renamer.lendings(), renamer.can_lend, [renamer.place_of(which) for which in range(8)]],
                  [lendings, False, list(range(40, 48))])
        self.refused(NothingFree, {}, renamer.lent, 0)

    def test_a_register_lent_twice(self):
        renamer = Renamer(12)
        self.same([renamer.lent(2), renamer.lent(2), renamer.lent(2), renamer.place_of(2), renamer.told()[1][2]],
                  [(8, 2), (9, 8), (10, 9), 10, 2])
        self.same(renamer.writes(), [(2, None)] * 3)

    def test_the_first_free_cell_is_lent(self):
        renamer = Renamer(10)
        renamer.lent(0)
        renamer.put(8, 1)
        renamer.kept(0, 8, 0)
        self.same([renamer.free(), renamer.lent(1), renamer.lent(1), renamer.value(8)], [[9, 0], (9, 1), (0, 9), 1])
        self.refused(NotReady, {}, renamer.value, 0)


class UndoneAndKept(Case):
    def test_the_newest_alone_is_undone(self):
        renamer, lendings = lent_all(12)
        told = renamer.told()
        for which, new, old in lendings[:-1] + [(3, 11, 2), (2, 11, 3), (3, 10, 3), (4, 8, 0)]:
            self.refused(NotNewest, {}, renamer.undone, which, new, old)
        self.same(renamer.told(), told)
        for at, lending in enumerate(reversed(lendings)):
            self.same([renamer.undone(*lending), renamer.free()], [None, list(range(11 - at, 12))])
        self.same(renamer.told(), Renamer(12).told())
        self.refused(NotNewest, {}, renamer.undone, *lendings[-1])

    def test_the_oldest_alone_is_kept_once_it_is_ready(self):
        renamer, lendings = lent_all(11)
        for lending in lendings[1:] + [(0, 8, 1), (1, 8, 0), (0, 9, 0)]:
            self.refused(NotOldest, {}, renamer.kept, *lending)
        self.refused(NotReady, {}, renamer.kept, *lendings[0])
        renamer.put(9, 5)
        self.refused(NotOldest, {}, renamer.kept, *lendings[1])
        self.refused(NotReady, {}, renamer.kept, *lendings[0])
        renamer.put(8, 4)
        self.same([renamer.kept(*lendings[0]), renamer.kept(*lendings[1]), renamer.free(), renamer.kept_words()],
                  [None, None, [0, 1], [4, 5, 0, 0, 0, 0, 0, 0]])
        self.refused(NotReady, {}, renamer.kept, *lendings[2])
        self.same(renamer.told(), ((8, 9, 10, 3, 4, 5, 6, 7), (8, 9, 2, 3, 4, 5, 6, 7), (0, 1), ((2, 10, 2),),
                                   (None, None, 0, 0, 0, 0, 0, 0, 4, 5, None)))

    def test_none_is_open(self):
        renamer = Renamer(9)
        self.refused(NotOldest, {}, renamer.kept, 0, 8, 0)
        self.refused(NotNewest, {}, renamer.undone, 0, 8, 0)

    def test_a_lone_one_is_newest_and_oldest(self):
        renamer = Renamer(9)
        renamer.lent(4)
        renamer.put(8, 6)
        copied = renamer.copy()
        self.same([renamer.undone(4, 8, 4), renamer.free(), renamer.place_of(4), renamer.kept_words()[4]],
                  [None, [8], 4, 0])
        self.same([copied.kept(4, 8, 4), copied.free(), copied.place_of(4), copied.kept_words()[4]], [None, [4], 8, 6])

    def test_whatever_the_undone_cell_held(self):
        renamer = Renamer(9)
        renamer.lent(4)
        renamer.put(8, 6)
        renamer.undone(4, 8, 4)
        self.same([renamer.is_ready(8), renamer.told(), renamer.lent(5), renamer.is_ready(8), renamer.writes()],
                  [False, Renamer(9).told(), (8, 5), False, [(5, None)]])

    def test_in_turns(self):
        renamer = Renamer(10)
        renamer.lent(1)
        renamer.put(8, 11)
        renamer.lent(1)
        renamer.kept(1, 8, 1)
        renamer.undone(1, 9, 8)
        self.same([renamer.free(), renamer.place_of(1), renamer.lent(1), renamer.lent(2)], [[9, 1], 8, (9, 8), (1, 2)])
        renamer.put(9, 12)
        renamer.kept(1, 9, 8)
        renamer.undone(2, 1, 2)
        self.same([renamer.kept_words(), renamer.free(), renamer.lendings()],
                  [[0, 12, 0, 0, 0, 0, 0, 0], [1, 8], []])


class Written(Case):
    def test_the_old_maps_cell(self):
        renamer = Renamer(9)
        self.same([renamer.written(3, 77), renamer.kept_words(), renamer.value(3)],
                  [None, [0, 0, 0, 77, 0, 0, 0, 0], 77])
        renamer.lent(3)
        renamer.put(8, 5)
        self.refused(StillLent, {}, renamer.written, 3, 9)
        self.refused(StillLent, {}, renamer.written, 0, 9)
        renamer.kept(3, 8, 3)
        self.same([renamer.written(3, 65535), renamer.value(8), renamer.kept_words()[3]], [None, 65535, 65535])


class Model:
    """The meaning [6b5]: eight words and a list of writes, and beside it which cells are used."""

    def __init__(self, many):
        self.words, self.writes, self.lendings, self.free = [0] * 8, [], [], list(range(8, many))
        self.old = list(range(8))

    def new(self):
        told = list(self.old)
        for which, cell, _ in self.lendings:
            told[which] = cell
        return told

    def cell(self, at):
        for (_, new, _), (_, word) in zip(self.lendings, self.writes):
            if new == at:
                return word
        return self.words[self.old.index(at)] if at in self.old else None


class Meaning(Case):
    def test_against_the_model(self):
        dice = random.Random(15)
        for many in (9, 10, 12, 16, 48):
            for _ in range(12):
                renamer, model = Renamer(many), Model(many)
                for _ in range(80):
                    self.turn(dice, renamer, model)
                    self.same(renamer.told(), (tuple(model.new()), tuple(model.old), tuple(model.free),
                                               tuple(model.lendings), tuple(model.cell(at) for at in range(many))))
                    self.same([renamer.kept_words(), renamer.writes()], [model.words, model.writes])
                    self.same([renamer.lendings(), renamer.free(), renamer.can_lend],
                              [model.lendings, model.free, bool(model.free)])
                    self.always_holds(renamer, many)

    def turn(self, dice, renamer, model):
        which, word, turn = dice.randrange(8), dice.randrange(65536), dice.random()
        waiting = [at for at, write in enumerate(model.writes) if write[1] is None]
        if turn < 0.4 and model.free:
            lending = (which, model.free[0], model.new()[which])
            self.same(renamer.lent(which), lending[1:])
            model.lendings.append(lending)
            model.writes.append((which, None))
            model.free.pop(0)
        elif turn < 0.65 and waiting:
            at = dice.choice(waiting)
            renamer.put(model.lendings[at][1], word)
            model.writes[at] = (model.writes[at][0], word)
        elif turn < 0.75 and model.lendings:
            renamer.undone(*model.lendings[-1])
            model.free.insert(0, model.lendings.pop()[1])
            model.writes.pop()
        elif turn < 0.95 and model.lendings and model.writes[0][1] is not None:
            renamer.kept(*model.lendings[0])
            which, new, old = model.lendings.pop(0)
            model.words[which] = model.writes.pop(0)[1]
            model.old[which] = new
            model.free.append(old)
        elif not model.lendings:
            renamer.written(which, word)
            model.words[which] = word

    def always_holds(self, renamer, many):
        new_map, old_map, free, lendings, cells = renamer.told()
        self.assertEqual(sorted([*old_map, *free, *[lending[1] for lending in lendings]]), list(range(many)))
        self.assertTrue(all(renamer.is_ready(at) for at in old_map))
        self.assertEqual(len(free), many - 8 - len(lendings))
        self.assertEqual(list(new_map), [renamer.place_of(which) for which in range(8)])
        for at in range(many):
            self.assertIs(renamer.is_ready(at), cells[at] is not None)
            if cells[at] is not None:
                self.assertEqual(renamer.value(at), cells[at])

    def test_the_eight_are_what_kept_writes_make_of_them(self):
        dice = random.Random(16)
        renamer, words, opened = Renamer(14), [0] * 8, []
        for _ in range(500):
            which, word = dice.randrange(8), dice.randrange(65536)
            if renamer.can_lend and dice.random() < 0.5:
                opened.append((which, *renamer.lent(which), word))
                renamer.put(opened[-1][1], word)
            elif opened and dice.random() < 0.5:
                renamer.undone(*opened.pop()[:3])
            elif opened:
                which, new, old, word = opened.pop(0)
                renamer.kept(which, new, old)
                words[which] = word
            self.same([renamer.kept_words(), renamer.writes()], [words, [(one[0], one[3]) for one in opened]])


class Apart(Case):
    def test_copies_change_apart(self):
        changes = [lambda one: one.lent(0), lambda one: one.put(9, 5), lambda one: one.undone(2, 10, 2),
                   lambda one: (one.put(9, 5), one.kept(1, 9, 1))]
        self.copies_change_apart(lent_thrice, lambda one: one.told(), changes)
        self.copies_change_apart(lambda: Renamer(9), lambda one: one.told(), [lambda one: one.written(0, 1)])

    def test_alike(self):
        self.alike(Renamer(9), Renamer(9))
        self.unlike(Renamer(9), Renamer(10))
        # The same free cells and words in another sequence of the free list are not the same.
        one, other = Renamer(10), Renamer(10)
        one.lent(0)
        one.put(8, 0)
        one.kept(0, 8, 0)
        self.unlike(one, other)

    def test_other_kinds(self):
        self.unlike(Renamer(9), *NO_OBJECTS, Renamer, Renamer(9).told())

    def test_what_is_returned_is_new(self):
        renamer = Renamer(10)
        renamer.lent(3)
        told = renamer.told()
        for one in (renamer.kept_words(), renamer.writes(), renamer.lendings(), renamer.free()):
            one.clear()
        self.same(renamer.told(), told)

    def test_arguments_by_name(self):
        renamer = Renamer(many=10)
        self.same(
            [renamer.written(which=0, value=4), renamer.lent(which=3), renamer.place_of(which=3),
             renamer.put(at=8, value=7), renamer.is_ready(at=8), renamer.value(at=8), renamer.lent(which=4),
             renamer.undone(which=4, new=9, old=4), renamer.kept(which=3, new=8, old=3), renamer.kept_words()],
            [None, (8, 3), 8, None, True, 7, (9, 4), None, None, [4, 0, 0, 7, 0, 0, 0, 0]],
        )


class Refusals(Case):
    def setUp(self):
        self.renamer = Renamer(10)
        self.renamer.lent(3)
        self.told = self.renamer.told()

    def tearDown(self):
        self.same(self.renamer.told(), self.told)

    def test_many(self):
        self.refused_each(InvalidMany, "value", NO_COUNTS + [0, 1, 7, 8, 49, 64, BIG], Renamer)

    def test_registers(self):
        one = self.renamer
        for call in (one.place_of, one.lent, lambda value: one.undone(value, 8, 3), lambda value: one.kept(value, 8, 3),
                     lambda value: one.written(value, 1)):
            self.refused_each(InvalidRegister, "value", NO_REGISTERS, call)

    def test_cells(self):
        one = self.renamer
        for call in (one.is_ready, one.value, lambda value: one.put(value, 1), lambda value: one.undone(3, value, 3),
                     lambda value: one.undone(3, 8, value), lambda value: one.kept(3, value, 3),
                     lambda value: one.kept(3, 8, value)):
            self.refused_each(InvalidCell, "value", NO_COUNTS + [10, 11, 48, BIG], call)

    def test_words(self):
        one = self.renamer
        self.refused_each(InvalidWord, "value", NO_WORDS, lambda value: one.put(8, value))
        self.refused_each(InvalidWord, "value", NO_WORDS, lambda value: one.written(3, value))

    def test_sequence(self):
        one = self.renamer
        self.refused_in_sequence(one.put, (0, InvalidCell, 10), (1, InvalidWord, 65536))
        self.refused_in_sequence(one.written, (0, InvalidRegister, 8), (1, InvalidWord, 65536))
        for call in (one.undone, one.kept):
            self.refused_in_sequence(call, (3, InvalidRegister, 8), (8, InvalidCell, 10), (3, InvalidCell, 11))


if __name__ == "__main__":
    unittest.main()
