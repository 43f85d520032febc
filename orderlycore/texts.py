"""TEXTS: written forms of values, there and back."""

from orderlycore.errors import InvalidSort, InvalidText, InvalidValue
from orderlycore.forms import is_form
from orderlycore.images import Image
from orderlycore.reading import GOING, HALTED, NOTHING, value_in


def _settings_lines(value):
    return [("settings",)] + [("set", name, count) for name, count in value.told()]


def _whims_lines(value):
    return [("whims", *value)]


def _raises_lines(value):
    return [("raises",)] + [("raise", *one) for one in value]


def _inputs_lines(value):
    return [("inputs", *value)]


def _rows_lines(value):
    return [("rows",)] + [("row", *row) for row in value]


def _snapshot_lines(value):
    registers, address, controls, is_halted, done, rows, devices = value
    left, outputs, counted, timer, lines = devices
    head = ("snapshot", address, done, HALTED if is_halted else GOING)
    # An image tells words that lie one behind the other as one part.
    stretches = Image([(place, [word]) for place, word in rows]).parts()
    memory = [("memory", first, *words) for first, words in stretches]
    behind = [("left", *left), ("outputs", *outputs), ("devices", counted, timer, *lines)]
    return [head, ("registers", *registers), ("controls", *controls)] + memory + behind


# Of each sort what tells the parts of the lines of a value.
_WRITERS = {
    "settings": _settings_lines,
    "whims": _whims_lines,
    "raises": _raises_lines,
    "inputs": _inputs_lines,
    "rows": _rows_lines,
    "snapshot": _snapshot_lines,
}


def sorts():
    """The list of the words of all sorts, in their sequence."""
    return list(_WRITERS)


def is_of_sort(sort, value):
    """Whether any value is one of a sort."""
    if not (isinstance(sort, str) and sort in _WRITERS):
        raise InvalidSort(sort)
    return is_form(sort, value)


def written(sort, value):
    """The written form of a value of a sort."""
    if not is_of_sort(sort, value):
        raise InvalidValue(value)
    writer = _WRITERS[sort]
    return "".join([_line(parts) for parts in writer(value)])


def read(text):
    """The tuple of the sort and the value of which a string is the written form."""
    if not isinstance(text, str):
        raise InvalidText(0)
    return value_in(text)


def _line(parts):
    return " ".join([NOTHING if part is None else str(part) for part in parts]) + "\n"
