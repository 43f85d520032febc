"""What the tests share: values of other kinds, and how refusals are tested."""

import unittest

BIG = 123456789012345678901234567890

# No INTEGERS, among them those that Python takes for 0 and 1.
NO_INTEGERS = [True, False, None, "", "0", "1", "add", [], [0], [1], (), (0,), (1,), {}, {1: 1}, b"1", len]
NO_COUNTS = NO_INTEGERS + [-1, -7, -65536, -BIG]
NO_WORDS = NO_COUNTS + [65536, 70000, BIG]
NO_STRINGS = [True, False, None, 0, 1, -1, BIG, [], ["nop"], (), ("nop",), {}, {"nop": 1}, b"nop", len]
NO_LISTS = [True, False, None, 0, 1, -1, BIG, "", "12", {}, {0: 1}, b"12", len]
NO_TUPLES = NO_LISTS + [[], [1, 2]]

NO_ADDRESSES = NO_COUNTS + [4096, 4097, 65535, BIG]
NO_PLACES = NO_COUNTS + [1024, 1025, 4095, BIG]
NO_MEMORY_PLACES = NO_COUNTS + [960, 961, 977, 1023, 1024, BIG]
NO_REGISTERS = NO_COUNTS + [8, 9, 65535, BIG]
NO_LINES = NO_COUNTS + [4, 5, 16, BIG]
NO_FRAMES = NO_COUNTS + [64, 65, 1023, BIG]
NO_WAYS = NO_STRINGS + ["", "read", "Fetch", "fetch ", "fetched", "loads", BIG]
NO_CONTROLS = NO_LISTS + [[], (), [0] * 7, (0,) * 7, [0] * 9, [[0] * 8], ["0"] * 8]
NO_CONTROLS += [[0] * 7 + [word] for word in NO_WORDS] + [(word,) + (0,) * 7 for word in NO_WORDS]
# Where an object of one class is wanted.
NO_OBJECTS = [True, False, None, 0, 1, -1, BIG, "", "memory", [], [0] * 8, (), (0,), {}, b"1", len, Exception]

# Words where sums, products and shifts turn over.
EDGES = [0, 1, 2, 3, 14, 15, 16, 17, 255, 256, 257, 300, 32767, 32768, 32769, 65534, 65535]


class Case(unittest.TestCase):
    def same(self, got, want):
        """Equal, and of the same kinds throughout: True is not 1, a list is no tuple."""
        self.assertEqual(repr(got), repr(want))

    def copies_change_apart(self, made, told, changes):
        """Each of the changes of what is made leaves a copy as it was, and the other way round; `==` tells so."""
        for change in changes:
            one = made()
            before, copied = told(one), one.copy()
            self.assertIs(type(copied), type(one))
            self.same(told(copied), before)
            self.alike(one, copied)
            change(copied)
            self.same(told(one), before)
            self.unlike(one, copied)
            change(one)
            self.same(told(one), told(copied))
            self.alike(one, copied)
            again = made()
            copied = again.copy()
            change(again)
            self.same(told(copied), before)

    def alike(self, one, other):
        self.assertIs(one == other, True)
        self.assertIs(one != other, False)

    def unlike(self, one, *others):
        for other in others:
            self.assertIs(one == other, False)
            self.assertIs(one != other, True)

    def refused(self, error, told, call, *given, **named):
        """The call raises just this error; told are its attributes by their names."""
        with self.assertRaises(error) as caught:
            call(*given, **named)
        self.assertIs(type(caught.exception), error)
        for name, value in told.items():
            kept = getattr(caught.exception, name)
            self.assertEqual(kept, value)
            self.assertIs(type(kept), type(value))

    def refused_in_sequence(self, call, *parameters):
        """The first wrong one of the parameters decides; each is told as (a right value, its error, a wrong value)."""
        for at, (_, error, value) in enumerate(parameters):
            given = [right for right, _, _ in parameters[:at]] + [wrong for _, _, wrong in parameters[at:]]
            with self.subTest(position=at):
                self.refused(error, {"value": value}, call, *given)

    def refused_each(self, error, attribute, values, call):
        """The call raises this error with each of the values as its attribute."""
        for value in values:
            with self.subTest(value=value):
                self.refused(error, {attribute: value}, call, value)
