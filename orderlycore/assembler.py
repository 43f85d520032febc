"""The assembler: what the lines of a text lay, and the listing of an image."""

from orderlycore.errors import BadText
from orderlycore.images import Image, need_image
from orderlycore.instructions import decoded, encoded, is_instruction, is_operation, parts_of
from orderlycore.lexing import is_label, need_text, number_in, parted, register_in, value_in
from orderlycore.listing import text_of
from orderlycore.memory import MEMORY_PLACES
from orderlycore.words import WORDS

_LEAST_WORTH = -32768
_MOST_SPACE = 400
_MOST_VALUES = 40
_MOST_SIGNS = 80
_BY_DISTANCE = ("bz", "bnz", "jal")
# What is laid that is no instruction written out: a worth itself, its low and its high byte put into a register.
_WORD = ".word"
_LOW = ".low"
_HIGH = ".high"


class Layout:
    """What is known of a text while its lines are laid, up to the first one that is bad in form."""

    def __init__(self):
        self.place = 0
        self.worths = {}
        self.labels = {}
        self.filled = {}
        self.entries = []

    def lay(self, number, line):
        """Lay a line; whether it is good in form."""
        found = parted(line)
        if found is None:
            return False
        label, words = found
        statement = _statement(words)
        if statement is None:
            return False
        kind, what = statement
        if kind == "name":
            return label is None and self._tell(what[0], what[1])
        if kind == "at":
            self.place = what
        if label is not None and not self._tell_label(label):
            return False
        return kind == "at" or self._fill(number, what)

    def worth_in(self, value):
        """The worth of a VALUE, None if its NAME is told nowhere."""
        name, number = value
        if name is None:
            return number
        if name not in self.worths:
            return None
        return self.worths[name] + number

    def _tell(self, name, worth):
        if name in self.worths:
            return False
        self.worths[name] = worth
        return True

    def _tell_label(self, name):
        self.labels[name] = True
        return self._tell(name, self.place)

    def _fill(self, number, items):
        for item in items:
            if self.place in self.filled or self.place >= MEMORY_PLACES:
                return False
            self.filled[self.place] = True
            self.entries.append((number, self.place, item))
            self.place += 1
        return True


def first_bad(text):
    """The first bad line of a text, None if there is none."""
    return _laid(text)[0]


def assembled(text):
    """The image that a text makes."""
    bad, words, _ = _laid(text)
    if bad is not None:
        raise BadText(bad)
    return Image([(place, [word]) for place, word in words])


def names_of(text):
    """The sorted list of the tuples (NAME, its worth) of a text."""
    bad, _, worths = _laid(text)
    if bad is not None:
        raise BadText(bad)
    return sorted(worths.items())


def listed(image):
    """The listing of an image."""
    need_image(image)
    lines = []
    for place, words in image.parts():
        lines.append(f".at {place}")
        lines.extend([_listed_word(word) for word in words])
    return "".join([line + "\n" for line in lines])


def _listed_word(word):
    instruction = decoded(word)
    if instruction is None:
        return f".word {word}"
    return text_of(instruction)


def _laid(text):
    """The first bad line or None, the list of the laid (place, word) ahead of it, and the worths of the names."""
    need_text(text)
    layout = Layout()
    words = []
    for number, line in enumerate(text.split("\n"), start=1):
        if not layout.lay(number, line):
            return (number, words, layout.worths)
    for number, place, item in layout.entries:
        word = _word_of(item, place, layout)
        if word is None:
            return (number, words, layout.worths)
        words.append((place, word))
    return (None, words, layout.worths)


def _word_of(item, place, layout):
    """The word of an item at a place, None if it is bad in worth."""
    kind, registers, value = item
    if value is None:
        return encoded((kind, *registers))
    worth = layout.worth_in(value)
    if worth is None:
        return None
    if kind in (_WORD, _LOW, _HIGH):
        return _data_word(kind, registers, worth)
    if kind in _BY_DISTANCE and value[0] in layout.labels:
        worth -= place
    instruction = (kind, *registers, worth)
    return encoded(instruction) if is_instruction(instruction) else None


def _data_word(kind, registers, worth):
    if not _LEAST_WORTH <= worth < WORDS:
        return None
    word = worth % WORDS
    if kind == _LOW:
        return encoded(("lim", *registers, word % 256))
    if kind == _HIGH:
        return encoded(("lhi", *registers, word // 256))
    return word


def _statement(words):
    """What a statement tells, None if it is bad in form.

    ("name", (NAME, number)), ("at", place), or ("lay", items): for each word an item of its kind, the registers in
    it, and the VALUE in it (None without one).
    """
    if len(words) == 3 and words[1] == "=":
        return _named(words[0], words[2])
    if len(words) == 2 and words[0] == ".at":
        return _at(words[1])
    items = _items(words)
    return None if items is None else ("lay", items)


def _named(name, text):
    number = number_in(text)
    if number is None or not is_label(name):
        return None
    return ("name", (name, number))


def _at(text):
    place = number_in(text)
    if place is None or not 0 <= place < MEMORY_PLACES:
        return None
    return ("at", place)


def _items(words):
    """The items that a statement lays, None if it is bad in form."""
    if not words:
        return []
    head, rest = words[0], words[1:]
    if head == ".word":
        return _word_items(rest)
    if head == ".space":
        return _space_items(rest)
    if head == ".text":
        return _text_items(rest)
    if head == "set":
        return _set_items(rest)
    if is_operation(head):
        return _instruction_items(head, rest)
    return None


def _word_items(words):
    values = [value_in(word) for word in words]
    if not 1 <= len(values) <= _MOST_VALUES or None in values:
        return None
    return [(_WORD, (), value) for value in values]


def _space_items(words):
    many = number_in(words[0]) if len(words) == 1 else None
    if many is None or not 0 <= many <= _MOST_SPACE:
        return None
    return [_fixed(0)] * many


def _text_items(words):
    if len(words) != 1 or not words[0].startswith('"'):
        return None
    signs = words[0][1:-1]
    if len(signs) > _MOST_SIGNS or not all([" " <= sign <= "~" for sign in signs]):
        return None
    return [_fixed(ord(sign)) for sign in signs]


def _fixed(number):
    return (_WORD, (), (None, number))


def _set_items(words):
    if len(words) != 2:
        return None
    which = register_in(words[0])
    value = value_in(words[1])
    if which is None or value is None:
        return None
    return [(_LOW, (which,), value), (_HIGH, (which,), value)]


def _instruction_items(name, words):
    are_registers = parts_of(name)
    if len(words) != len(are_registers):
        return None
    parts = [register_in(word) if is_which else value_in(word) for word, is_which in zip(words, are_registers)]
    if None in parts:
        return None
    if all(are_registers):
        return [(name, tuple(parts), None)]
    # A number stands behind all registers.
    return [(name, tuple(parts[:-1]), parts[-1])]
