"""Settings [1a4]."""

import unittest

from kit import BIG, NO_COUNTS, NO_LISTS, NO_STRINGS, Case
from orderlycore.errors import InvalidValues, NoSuchName
from orderlycore.settings import Settings

# Of each name the least, the greatest and the told one.
BOUNDS = {
    "fetch": (1, 4, 2), "issue": (1, 4, 2), "retire": (1, 4, 2), "reorder": (2, 32, 8), "stations": (1, 16, 4),
    "loads": (1, 8, 4), "stores": (1, 8, 4), "physical": (9, 48, 16), "queue": (1, 8, 4), "line": (1, 16, 4),
    "sets1": (1, 8, 2), "ways1": (1, 4, 1), "sets2": (1, 16, 4), "ways2": (1, 4, 2), "wait2": (0, 9, 2),
    "waitm": (0, 20, 6), "times": (1, 8, 3), "over": (1, 16, 6), "buffer": (1, 16, 4), "targets": (1, 16, 4),
    "counters": (1, 32, 8), "returns": (0, 8, 2), "whim": (0, 4, 0), "twist": (0, 1, 0),
}
PLAIN = sorted((name, told) for name, (_, _, told) in BOUNDS.items())


class Values(Case):
    def test_example(self):
        small = Settings([("reorder", 4), ("line", 8)])
        self.same(
            [small.value("reorder"), small.value("fetch"), len(small.told()),
             small == Settings((("line", 8), ("reorder", 4), ("issue", 2)))],
            [4, 2, 24, True],
        )

    def test_if_nothing_is_told(self):
        self.same(Settings([]).told(), PLAIN)
        self.same(Settings(()).told(), PLAIN)
        for name, (_, _, told) in BOUNDS.items():
            self.same(Settings([]).value(name), told)

    def test_every_value_within_the_bounds_and_none_beside(self):
        for name, (least, greatest, _) in BOUNDS.items():
            for count in range(-1, greatest + 3):
                with self.subTest(name=name, count=count):
                    if count in ((1, 2, 4, 8, 16) if name == "line" else range(least, greatest + 1)):
                        settings = Settings([(name, count)])
                        self.same(settings.value(name), count)
                        self.same(settings.told(), sorted(dict(PLAIN, **{name: count}).items()))
                    else:
                        self.refused(InvalidValues, {"value": [(name, count)]}, Settings, [(name, count)])

    def test_all_told_at_once(self):
        for at in (0, 1):
            told = [(name, bounds[at]) for name, bounds in BOUNDS.items()]
            self.same(Settings(told).told(), sorted(told))
            self.same(Settings(tuple(told)).told(), sorted(told))

    def test_by_name(self):
        self.same(Settings(values=[("whim", 3)]).value(name="whim"), 3)


class Apart(Case):
    def test_what_is_passed_stays_and_is_copied(self):
        told = [("fetch", 3), ("issue", 1)]
        settings = Settings(told)
        self.same(told, [("fetch", 3), ("issue", 1)])
        told[0] = ("fetch", 1)
        del told[1]
        self.same([settings.value("fetch"), settings.value("issue")], [3, 1])

    def test_what_is_told_is_new(self):
        settings = Settings([])
        settings.told().clear()
        self.same(settings.told(), PLAIN)
        self.same(Settings([]).told(), PLAIN)

    def test_settings_do_not_touch_each_other(self):
        Settings([("fetch", 4)])
        self.same(Settings([]).value("fetch"), 2)


class Alike(Case):
    def test_all_values_alike(self):
        self.assertTrue(Settings([]) == Settings(PLAIN))
        self.assertFalse(Settings([]) != Settings(PLAIN))
        for name, (least, greatest, told) in BOUNDS.items():
            other = least if least != told else greatest
            self.assertIs(Settings([(name, other)]) == Settings([]), False)
            self.assertIs(Settings([(name, other)]) != Settings([]), True)

    def test_other_kinds(self):
        for other in (None, 0, True, "settings", [], PLAIN, tuple(PLAIN), dict(PLAIN), Settings):
            self.assertIs(Settings([]) == other, False)
            self.assertIs(Settings([]) != other, True)


class Refusals(Case):
    def test_no_list_of_tuples(self):
        wrong = NO_LISTS + [[one] for one in NO_LISTS + [[], (), ["fetch", 2], ("fetch",), ("fetch", 2, 2)]]
        wrong += [[("fetch", 2), ["issue", 2]], ("fetch", 2), [[("fetch", 2)]], [(("fetch", 2),)]]
        self.refused_each(InvalidValues, "value", wrong, Settings)

    def test_names(self):
        wrong = [[(name, 1)] for name in NO_STRINGS + ["", "Fetch", "fetch ", "sets", "sets3", "value", "size"]]
        self.refused_each(InvalidValues, "value", wrong, Settings)

    def test_counts(self):
        wrong = [[(name, count)] for name in BOUNDS for count in NO_COUNTS + [49, 65536, BIG]]
        self.refused_each(InvalidValues, "value", wrong, Settings)

    def test_none_twice(self):
        for name, (_, _, told) in BOUNDS.items():
            twice = [(name, told), (name, told)]
            self.refused(InvalidValues, {"value": twice}, Settings, twice)
        apart = (("fetch", 1), ("issue", 2), ("fetch", 3))
        self.refused(InvalidValues, {"value": apart}, Settings, apart)

    def test_no_such_name(self):
        settings = Settings([])
        self.refused_each(NoSuchName, "name", NO_STRINGS + ["", "FETCH", " fetch", "fetc", "lines"], settings.value)


if __name__ == "__main__":
    unittest.main()
