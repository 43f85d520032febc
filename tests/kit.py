"""What the tests share: values of other kinds, and how refusals are tested."""

import unittest

BIG = 123456789012345678901234567890

# No INTEGERS, among them those that Python takes for 0 and 1.
NO_INTEGERS = [True, False, None, "", "0", "1", "add", [], [0], [1], (), (0,), (1,), {}, {1: 1}, b"1", len]
NO_COUNTS = NO_INTEGERS + [-1, -7, -65536, -BIG]
NO_WORDS = NO_COUNTS + [65536, 70000, BIG]
NO_STRINGS = [True, False, None, 0, 1, -1, BIG, [], ["nop"], (), ("nop",), {}, {"nop": 1}, b"nop", len]
NO_LISTS = [True, False, None, 0, 1, -1, BIG, "", "12", {}, {0: 1}, b"12", len]
NO_TUPLES = NO_LISTS + [[], [1, 2]]

# Words where sums, products and shifts turn over.
EDGES = [0, 1, 2, 3, 14, 15, 16, 17, 255, 256, 257, 300, 32767, 32768, 32769, 65534, 65535]


class Case(unittest.TestCase):
    def same(self, got, want):
        """Equal, and of the same kinds throughout: True is not 1, a list is no tuple."""
        self.assertEqual(repr(got), repr(want))

    def refused(self, error, told, call, *given, **named):
        """The call raises just this error; told are its attributes by their names."""
        with self.assertRaises(error) as caught:
            call(*given, **named)
        self.assertIs(type(caught.exception), error)
        for name, value in told.items():
            kept = getattr(caught.exception, name)
            self.assertEqual(kept, value)
            self.assertIs(type(kept), type(value))

    def refused_each(self, error, attribute, values, call):
        """The call raises this error with each of the values as its attribute."""
        for value in values:
            with self.subTest(value=value):
                self.refused(error, {attribute: value}, call, value)
