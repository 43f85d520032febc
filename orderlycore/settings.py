"""SETTINGS: how wide, how deep and how slow the parts of a core are."""

from orderlycore.basics import is_between, is_list
from orderlycore.errors import InvalidSettings, InvalidValues, NoSuchName

# Of each name the least value, the greatest one, and the one if nothing is told.
_BOUNDS = {
    "fetch": (1, 4, 2),
    "issue": (1, 4, 2),
    "retire": (1, 4, 2),
    "reorder": (2, 32, 8),
    "stations": (1, 16, 4),
    "loads": (1, 8, 4),
    "stores": (1, 8, 4),
    "physical": (9, 48, 16),
    "queue": (1, 8, 4),
    "line": (1, 16, 4),
    "sets1": (1, 8, 2),
    "ways1": (1, 4, 1),
    "sets2": (1, 16, 4),
    "ways2": (1, 4, 2),
    "wait2": (0, 9, 2),
    "waitm": (0, 20, 6),
    "times": (1, 8, 3),
    "over": (1, 16, 6),
    "buffer": (1, 16, 4),
    "targets": (1, 16, 4),
    "counters": (1, 32, 8),
    "returns": (0, 8, 2),
    "whim": (0, 4, 0),
    "twist": (0, 1, 0),
}
_LINES = (1, 2, 4, 8, 16)


class Settings:
    """A COUNT for each name."""

    def __init__(self, values):
        if not _are_values(values):
            raise InvalidValues(values)
        self._values = {name: bounds[2] for name, bounds in _BOUNDS.items()}
        for name, count in values:
            self._values[name] = count

    def value(self, name):
        """The value of a name."""
        if not _is_name(name):
            raise NoSuchName(name)
        return self._values[name]

    def told(self):
        """The sorted list of the tuples (name, value) of all names."""
        return sorted(self._values.items())

    def __eq__(self, other):
        return isinstance(other, Settings) and self._values == other._values


def need_settings(value):
    """Refuse what is no Settings."""
    if not isinstance(value, Settings):
        raise InvalidSettings(value)


def is_setting(value):
    """Whether any value is a tuple of a name and a COUNT within its bounds."""
    if not (isinstance(value, tuple) and len(value) == 2 and _is_name(value[0])):
        return False
    least, greatest = _BOUNDS[value[0]][:2]
    if not is_between(value[1], least, greatest):
        return False
    return value[0] != "line" or value[1] in _LINES


def _is_name(value):
    # What is no string may be a value that cannot be looked up at all.
    return isinstance(value, str) and value in _BOUNDS


def _are_values(value):
    if not (is_list(value) and all([is_setting(one) for one in value])):
        return False
    return len(set([one[0] for one in value])) == len(value)
