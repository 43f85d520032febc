"""READING written forms, line by line."""

from orderlycore.core import MOST_RAISES, is_raise
from orderlycore.devices import are_inputs
from orderlycore.errors import InvalidText
from orderlycore.forms import MOST_ROWS, are_eight_words, are_lines, is_step_count
from orderlycore.lexing import count_in
from orderlycore.meanings import is_row
from orderlycore.memory import is_part
from orderlycore.settings import Settings, is_setting
from orderlycore.whims import are_whims
from orderlycore.words import is_address, is_word, is_word_list

# How None, and whether a state is halted, are written.
NOTHING = "-"
HALTED = "halted"
GOING = "going"
# So many digits has the greatest COUNT of any form.
_MOST_DIGITS = 7


class Lines:
    """The lines of a text, taken one behind the other; the first wrong one is refused."""

    def __init__(self, text):
        lines = text.split("\n")
        # What stands behind the last line feed is a line without one, and never right.
        self._rest = lines.pop()
        self._lines = lines
        # The number of the line that was taken last.
        self._at = 0

    def has_more(self):
        """Whether there is a next line."""
        return self._at < len(self._lines)

    def has_next(self, head):
        """Whether there is a next line, and this is its first word."""
        return self.has_more() and self._lines[self._at].split(" ")[0] == head

    def line_of(self, head):
        """Take the next line, which must have this first word: the list of the words behind it, COUNTS as numbers."""
        is_right = self.has_next(head)
        self._at += 1
        self.need(is_right)
        return [_part_in(word) for word in self._lines[self._at - 1].split(" ")[1:]]

    def need(self, is_right):
        """Refuse the line that was taken last unless it is right."""
        if not is_right:
            raise InvalidText(self._at)

    def need_end(self):
        """Refuse a line behind the last one that was taken."""
        if self.has_more() or self._rest != "":
            raise InvalidText(self._at + 1)


def _settings(lines):
    lines.need(lines.line_of("settings") == [])
    values = []
    for name, _ in Settings([]).told():
        value = tuple(lines.line_of("set"))
        lines.need(value[:1] == (name,) and is_setting(value))
        values.append(value)
    return Settings(values)


def _whims(lines):
    return _words(lines, "whims", are_whims)


def _raises(lines):
    return _listed(lines, "raises", "raise", is_raise, MOST_RAISES)


def _inputs(lines):
    return _words(lines, "inputs", are_inputs)


def _rows(lines):
    return _listed(lines, "rows", "row", is_row, MOST_ROWS)


def _snapshot(lines):
    head = lines.line_of("snapshot")
    lines.need(len(head) == 3 and is_address(head[0]) and is_step_count(head[1]) and head[2] in (HALTED, GOING))
    address, done, state = head
    registers = _words(lines, "registers", are_eight_words)
    controls = _words(lines, "controls", are_eight_words)
    rows = _memory_rows(lines)
    devices = _devices(lines)
    return (registers, address, controls, state == HALTED, done, rows, devices)


def _memory_rows(lines):
    rows = []
    end = -1
    while lines.has_next("memory"):
        parts = lines.line_of("memory")
        lines.need(len(parts) > 1)
        first, *words = parts
        # What begins where the stretch ahead ends belongs to that one.
        lines.need(is_part((first, words)) and first > end and 0 not in words)
        rows.extend(list(enumerate(words, start=first)))
        end = first + len(words)
    return rows


def _devices(lines):
    left = _words(lines, "left", are_inputs)
    outputs = _words(lines, "outputs", is_word_list)
    parts = lines.line_of("devices")
    lines.need(len(parts) >= 2 and is_step_count(parts[0]) and is_word(parts[1]) and are_lines(parts[2:]))
    return (left, outputs, parts[0], parts[1], parts[2:])


def _listed(lines, head, word, is_right, most):
    """The list of the tuples of all lines behind the first one; they begin with a word, and must be right."""
    lines.need(lines.line_of(head) == [])
    found = []
    while lines.has_more():
        value = tuple([None if part == NOTHING else part for part in lines.line_of(word)])
        lines.need(is_right(value) and len(found) < most)
        found.append(value)
    return found


def _words(lines, head, are_right):
    """The list of the numbers of the next line, which must be right."""
    numbers = lines.line_of(head)
    lines.need(are_right(numbers))
    return numbers


def _part_in(word):
    """The COUNT that a word is, else the word itself."""
    count = count_in(word, _MOST_DIGITS)
    return word if count is None else count


_READERS = {
    "settings": _settings,
    "whims": _whims,
    "raises": _raises,
    "inputs": _inputs,
    "rows": _rows,
    "snapshot": _snapshot,
}


def value_in(text):
    """The tuple of the sort and the value of which a string is the written form."""
    lines = Lines(text)
    for sort in _READERS:
        if lines.has_next(sort):
            reader = _READERS[sort]
            value = reader(lines)
            lines.need_end()
            return (sort, value)
    raise InvalidText(1)
