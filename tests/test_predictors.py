"""Prediction [6a1] to [6a5]."""

import random
import unittest

from kit import NO_ADDRESSES, NO_OBJECTS, NO_WORDS, Case
from models import parted_word
from orderlycore.errors import InvalidAddress, InvalidSettings, InvalidWhims, InvalidWord
from orderlycore.instructions import encoded
from orderlycore.predictors import Predictor
from orderlycore.settings import Settings
from orderlycore.whims import Whims

BACK = encoded(("jr", 0, 7, 0))
CALL = encoded(("jal", 7, 30))
LOOP = encoded(("bnz", 1, -3))
OTHERS = [encoded(one) for one in [
    ("add", 7, 7, 7), ("div", 1, 2, 3), ("addi", 7, 7, 0), ("ld", 7, 7, 0), ("st", 7, 7, 0), ("lim", 7, 9),
    ("lhi", 7, 9), ("sys", 7), ("rdc", 7, 2), ("wrc", 7, 2), ("ret",), ("halt",), ("nop",),
]] + [0, 65535, 27 * 2048, 2379]


def predictor_of(*values, whims=()):
    return Predictor(Settings(list(values)), Whims(whims))


class Examples(Case):
    def test_example(self):
        guess = Predictor(Settings([("returns", 1)]), Whims([]))
        loop, back = encoded(("bnz", 1, -3)), encoded(("jr", 0, 7, 0))
        self.same(
            [guess.expected(20, loop), guess.learned(20, loop, 17), guess.expected(20, loop),
             guess.expected(5, encoded(("jal", 7, 30))), guess.expected(35, back), guess.expected(36, back)],
            [21, None, 17, 35, 6, 37],
        )
        self.same(
            [guess.learned(36, back, 9), guess.expected(36, back), guess.expected(40, back), guess.told()[0][:5],
             guess.told()[1]],
            [None, 9, 41, [1, 1, 1, 1, 2], [(36, 9), None, None, None]],
        )


class AtFirst(Case):
    def test_told(self):
        for counters, targets in ((1, 1), (32, 16), (8, 4)):
            guess = predictor_of(("counters", counters), ("targets", targets))
            self.same(guess.told(), ([1] * counters, [None] * targets, []))

    def test_all_other_words_go_to_the_next_address(self):
        guess = predictor_of(("twist", 1), whims=[3] * 20)
        told = guess.told()
        for address in (0, 1, 959, 960, 4094, 4095):
            for word in OTHERS:
                self.same(guess.expected(address, word), (address + 1) % 4096)
                self.same(guess.learned(address, word, 77), None)
        self.same(guess.told(), told)

    def test_other_words_take_no_whim(self):
        whims = Whims([3] * 20)
        guess = Predictor(Settings([("twist", 1)]), whims)
        for word in OTHERS:
            guess.expected(0, word)
        self.same(whims.taken, 0)


class Counters(Case):
    def test_up_and_down_to_both_edges(self):
        for name in ("bz", "bnz"):
            guess, word = predictor_of(), encoded((name, 3, 20))
            told = []
            for went in (60, 60, 60, 60, 41, 41, 41, 41, 60):
                guess.learned(40, word, went)
                told.append((guess.told()[0][0], guess.expected(40, word)))
            self.same(told, [(2, 60), (3, 60), (3, 60), (3, 60), (2, 60), (1, 41), (0, 41), (0, 41), (1, 41)])

    def test_places_modulo(self):
        guess = predictor_of(("counters", 3))
        for address in (4, 7, 5, 4095):
            guess.learned(address, LOOP, (address - 3) % 4096)
        self.same(guess.told()[0], [2, 3, 2])
        self.same([guess.expected(address, LOOP) for address in (1, 3, 2)], [4094, 0, 4095])

    def test_one_counter(self):
        guess = predictor_of(("counters", 1))
        self.same([guess.expected(9, LOOP), guess.learned(4, LOOP, 1), guess.expected(9, LOOP),
                   guess.learned(5, LOOP, 6), guess.expected(9, LOOP)], [10, None, 6, None, 10])

    def test_where_else_it_went_counts_down(self):
        guess = predictor_of()
        guess.learned(8, LOOP, 6)
        self.same(guess.told()[0][0], 0)

    def test_a_target_that_is_the_next_address(self):
        guess, word = predictor_of(), encoded(("bz", 1, 1))
        guess.learned(8, word, 9)
        self.same([guess.told()[0][0], guess.expected(8, word)], [2, 9])

    def test_targets_beyond_both_ends(self):
        guess = predictor_of(("counters", 1))
        guess.learned(0, LOOP, 4093)
        self.same([guess.expected(0, LOOP), guess.expected(2, LOOP), guess.expected(4095, encoded(("bz", 1, 1))),
                   guess.expected(4090, encoded(("bz", 1, 127))), guess.expected(5, encoded(("bz", 1, -128)))],
                  [4093, 4095, 0, 121, 3973])
        guess.learned(4095, LOOP, 0)
        self.same(guess.expected(4095, LOOP), 0)

    def test_asking_changes_no_counter(self):
        guess = predictor_of()
        told = guess.told()
        for _ in range(3):
            guess.expected(0, LOOP)
        self.same(guess.told(), told)


class Jumps(Case):
    def test_calls_go_to_their_targets(self):
        guess = predictor_of()
        for a in range(8):
            for address, n, went in ((0, -1, 4095), (4095, 1, 0), (100, 127, 227), (100, -128, 4068), (5, 0, 5)):
                self.same(guess.expected(address, encoded(("jal", a, n))), went)
                guess.learned(address, encoded(("jal", a, n)), 77)
        self.same(guess.told()[:2], ([1] * 8, [None] * 4))

    def test_returns(self):
        guess = predictor_of(("returns", 3))
        for address in (10, 20, 4095):
            guess.expected(address, CALL)
        self.same(guess.told()[2], [11, 21, 0])
        self.same([guess.expected(50, BACK) for _ in range(4)], [0, 21, 11, 51])
        self.same(guess.told()[2], [])

    def test_more_returns_than_may_be(self):
        for many in (0, 1, 2, 8):
            guess = predictor_of(("returns", many))
            for address in range(10):
                guess.expected(address, CALL)
            self.same(guess.told()[2], [address + 1 for address in range(10)][10 - many:])

    def test_without_returns_none_is_ever_kept(self):
        guess = predictor_of(("returns", 0))
        self.same([guess.expected(5, CALL), guess.expected(35, BACK), guess.told()[2]], [35, 36, []])

    def test_calls_by_other_registers_are_not_kept(self):
        guess = predictor_of()
        for a in range(7):
            guess.expected(5, encoded(("jal", a, 30)))
            guess.expected(5, encoded(("jr", a, 3, 0)))
        self.same(guess.told()[2], [])

    def test_which_jumps_are_returns(self):
        for b in range(8):
            for n in (-16, -1, 0, 1, 15):
                guess = predictor_of()
                guess.expected(5, CALL)
                is_return = b == 7 and n == 0
                self.same([guess.expected(60, encoded(("jr", 0, b, n))), guess.told()[2]],
                          [6 if is_return else 61, [] if is_return else [6]])

    def test_a_jump_that_keeps_its_own_return(self):
        # By another register it is kept behind; back by 7 itself the last one goes ahead of that.
        guess = predictor_of(("returns", 2))
        guess.expected(5, CALL)
        self.same([guess.expected(60, encoded(("jr", 7, 3, 0))), guess.told()[2]], [61, [6, 61]])
        self.same([guess.expected(70, encoded(("jr", 7, 7, 0))), guess.told()[2]], [61, [6, 71]])
        self.same([guess.expected(80, encoded(("jr", 7, 7, 1))), guess.told()[2]], [81, [71, 81]])
        guess = predictor_of()
        self.same([guess.expected(80, encoded(("jr", 7, 7, 0))), guess.told()[2]], [81, [81]])

    def test_targets(self):
        guess, word = predictor_of(("targets", 4)), encoded(("jr", 1, 3, 2))
        guess.learned(6, word, 900)
        self.same(guess.told()[1], [None, None, (6, 900), None])
        self.same([guess.expected(6, word), guess.expected(2, word), guess.expected(10, word)], [900, 3, 11])
        guess.learned(10, word, 0)
        self.same([guess.expected(6, word), guess.expected(10, word)], [7, 0])
        guess.learned(10, word, 4095)
        self.same(guess.expected(10, word), 4095)

    def test_one_target(self):
        guess, word = predictor_of(("targets", 1)), encoded(("jr", 1, 3, 2))
        guess.learned(0, word, 9)
        guess.learned(4095, word, 8)
        self.same([guess.told()[1], guess.expected(0, word), guess.expected(4095, word)], [[(4095, 8)], 1, 8])

    def test_returns_come_ahead_of_targets(self):
        guess = predictor_of()
        guess.learned(60, BACK, 500)
        guess.expected(5, CALL)
        self.same([guess.expected(60, BACK), guess.expected(60, BACK)], [6, 500])

    def test_what_is_learned_changes_no_returns(self):
        guess = predictor_of()
        guess.expected(5, CALL)
        guess.learned(60, BACK, 500)
        guess.learned(5, CALL, 35)
        self.same(guess.told(), ([1] * 8, [(60, 500), None, None, None], [6]))


class Twisted(Case):
    def test_three_of_four_lets_anything_be_expected(self):
        for number, other, told in ((3, 4000, 4000), (7, 4097, 1), (3, 0, 0), (2, 9, None), (0, 9, None), (5, 9, None)):
            for address, word, plain in ((20, LOOP, 21), (20, CALL, 50), (20, BACK, 21),
                                         (20, encoded(("bz", 1, 0)), 21)):
                whims = Whims([number, other])
                guess = Predictor(Settings([("twist", 1)]), whims)
                self.same(guess.expected(address, word), plain if told is None else told)
                self.same(whims.taken, 1 if told is None else 2)

    def test_behind_all_that(self):
        guess = predictor_of(("twist", 1), whims=[3, 9, 3, 8])
        self.same([guess.expected(5, CALL), guess.told()[2]], [9, [6]])
        self.same([guess.expected(5, BACK), guess.told()[2]], [8, []])

    def test_without_twist_none_is_taken(self):
        whims = Whims([3, 9])
        guess = Predictor(Settings([]), whims)
        self.same([guess.expected(5, CALL), whims.taken], [35, 0])

    def test_learning_takes_none(self):
        whims = Whims([3, 9])
        guess = Predictor(Settings([("twist", 1)]), whims)
        guess.learned(5, BACK, 7)
        guess.learned(5, LOOP, 2)
        self.same(whims.taken, 0)


class Model:
    """[6a2] to [6a5] once more, with dicts."""

    def __init__(self, settings, numbers):
        self.of, self.numbers = dict(settings.told()), list(numbers)
        self.counters, self.targets, self.returns = {}, {}, ()

    def take(self, many):
        return self.numbers.pop(0) % many if self.numbers else 0

    def expected(self, address, word):
        name, a, b, n = parted_word(word) or ("bad", None, None, None)
        told = address + 1
        if name == "jal" or name in ("bz", "bnz") and self.counters.get(address % self.of["counters"], 1) > 1:
            told = address + n
        if name == "jr":
            if (b, n) == (7, 0) and self.returns:
                *self.returns, told = self.returns
            else:
                told = self.targets.get(address % self.of["targets"], {}).get(address, told)
        if name in ("jal", "jr") and a == 7 and self.of["returns"]:
            self.returns = (*self.returns, (address + 1) % 4096)[-self.of["returns"]:]
        if name in ("jal", "jr", "bz", "bnz") and self.of["twist"] and self.take(4) == 3:
            told = self.take(4096)
        return told % 4096

    def learned(self, address, word, behind):
        name, _, _, n = parted_word(word) or ("bad", None, None, None)
        if name in ("bz", "bnz"):
            at = address % self.of["counters"]
            taken = behind == (address + n) % 4096
            self.counters[at] = sorted([0, self.counters.get(at, 1) + (1 if taken else -1), 3])[1]
        if name == "jr":
            self.targets[address % self.of["targets"]] = {address: behind}

    def told(self):
        targets = [[*self.targets.get(at, {}).items(), None][0] for at in range(self.of["targets"])]
        return [self.counters.get(at, 1) for at in range(self.of["counters"])], targets, list(self.returns)


class AgainstTheModel(Case):
    def test_all_of_it(self):
        dice = random.Random(13)
        for _ in range(60):
            settings = Settings([("counters", dice.randrange(1, 33)), ("targets", dice.randrange(1, 17)),
                                 ("returns", dice.randrange(9)), ("twist", dice.randrange(2))])
            numbers = [dice.randrange(10000) for _ in range(100)]
            guess, model = Predictor(settings, Whims(numbers)), Model(settings, numbers)
            for _ in range(120):
                address = dice.choice([dice.randrange(12), dice.randrange(4096), 4095])
                a, b = dice.choice([7, 7, 1]), dice.choice([7, 7, 2])
                word = dice.choice([
                    encoded(("jr", a, b, dice.choice([0, 0, 3]))), encoded(("jal", a, dice.randrange(-128, 128))),
                    encoded((dice.choice(["bz", "bnz"]), a, dice.choice([-3, 1, 5]))), dice.randrange(65536),
                ])
                if dice.random() < 0.5:
                    self.same(guess.expected(address, word), model.expected(address, word))
                else:
                    behind = (address + dice.choice([-3, 1, 5, dice.randrange(4096)])) % 4096
                    guess.learned(address, word, behind)
                    model.learned(address, word, behind)
                self.same(guess.told(), model.told())


class Apart(Case):
    def test_copies_change_apart_and_take_their_own_whims(self):
        whims, other = Whims([3, 100, 3, 101]), Whims([3, 200])
        guess = Predictor(Settings([("twist", 1)]), whims)
        guess.learned(5, LOOP, 2)
        guess.learned(6, BACK, 900)
        guess.expected(5, CALL)
        told = guess.told()
        copied = guess.copy(other)
        self.assertIsInstance(copied, Predictor)
        self.same(copied.told(), told)
        self.same([copied.expected(8, CALL), whims.taken, other.taken], [200, 2, 2])
        copied.learned(5, LOOP, 2)
        copied.learned(2, BACK, 7)
        self.same(guess.told(), told)
        again = guess.copy(whims=Whims([]))
        self.same([guess.expected(7, CALL), guess.learned(5, LOOP, 2), guess.learned(6, BACK, 1)], [101, None, None])
        self.same([again.told(), whims.taken, other.taken], [told, 4, 2])

    def test_what_is_returned_is_new(self):
        guess = predictor_of()
        guess.expected(5, CALL)
        told = guess.told()
        for one in guess.told():
            one.clear()
        self.same(guess.told(), told)

    def test_arguments_by_name(self):
        guess = Predictor(settings=Settings([]), whims=Whims([]))
        self.same([guess.expected(address=5, word=CALL), guess.learned(address=5, word=BACK, behind=7),
                   guess.told()[1:]], [35, None, ([None, (5, 7), None, None], [6])])


class Refusals(Case):
    def test_parts(self):
        settings, whims = Settings([]), Whims([])
        no_whims = NO_OBJECTS + [Whims, settings]
        self.refused_each(InvalidSettings, "value", NO_OBJECTS + [Settings, whims],
                          lambda value: Predictor(value, whims))
        self.refused_each(InvalidWhims, "value", no_whims, lambda value: Predictor(settings, value))
        self.refused_in_sequence(Predictor, (settings, InvalidSettings, 0), (whims, InvalidWhims, 1))
        self.refused_each(InvalidWhims, "value", no_whims, predictor_of().copy)

    def test_addresses_and_words_change_nothing(self):
        whims = Whims([3, 7, 3, 8])
        guess = Predictor(Settings([("twist", 1)]), whims)
        guess.expected(5, CALL)
        told = guess.told()
        self.refused_each(InvalidAddress, "value", NO_ADDRESSES, lambda value: guess.expected(value, BACK))
        self.refused_each(InvalidWord, "value", NO_WORDS, lambda value: guess.expected(5, value))
        self.refused_each(InvalidAddress, "value", NO_ADDRESSES, lambda value: guess.learned(value, BACK, 5))
        self.refused_each(InvalidWord, "value", NO_WORDS, lambda value: guess.learned(5, value, 5))
        self.refused_each(InvalidAddress, "value", NO_ADDRESSES, lambda value: guess.learned(5, BACK, value))
        self.refused_in_sequence(guess.expected, (5, InvalidAddress, 4096), (BACK, InvalidWord, 65536))
        self.refused_in_sequence(guess.learned, (5, InvalidAddress, 4096), (BACK, InvalidWord, 65536),
                                 (5, InvalidAddress, -1))
        self.same([guess.told(), whims.taken], [told, 2])


if __name__ == "__main__":
    unittest.main()
