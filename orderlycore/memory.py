"""MEMORY: a WORD at each place below 960, and the parts of which one is made."""

from orderlycore.basics import is_between, is_list
from orderlycore.errors import InvalidMemory, InvalidParts, InvalidPlace
from orderlycore.words import is_word_list, need_word

MEMORY_PLACES = 960


class Memory:
    """A WORD at each place of memory, at first 0."""

    def __init__(self):
        self._words = [0] * MEMORY_PLACES

    def word(self, place):
        """The word at a place."""
        need_memory_place(place)
        return self._words[place]

    def put(self, place, word):
        """Put a word at a place."""
        need_memory_place(place)
        need_word(word)
        self._words[place] = word

    def rows(self):
        """The sorted list of the tuples (place, word) of all places whose word is not 0."""
        return [(place, word) for place, word in enumerate(self._words) if word != 0]

    def copy(self):
        """A memory that is as this one is now, and changes apart from it."""
        made = Memory()
        made._words = list(self._words)
        return made

    def __eq__(self, other):
        return isinstance(other, Memory) and self._words == other._words


def need_memory(value):
    """Refuse what is no Memory."""
    if not isinstance(value, Memory):
        raise InvalidMemory(value)


def memory_of(parts):
    """The memory of parts: later ones lie over earlier ones."""
    if not (is_list(parts) and all([is_part(part) for part in parts])):
        raise InvalidParts(parts)
    made = Memory()
    for first, words in parts:
        put_words(made, first, words)
    return made


def put_words(memory, first, words):
    """Put words from a place on, one behind the other."""
    for place, word in enumerate(words, start=first):
        memory.put(place, word)


def is_memory_place(value):
    """Whether any value is a place of memory."""
    return is_between(value, 0, MEMORY_PLACES - 1)


def need_memory_place(value):
    """Refuse what is no place of memory."""
    if not is_memory_place(value):
        raise InvalidPlace(value)


def is_part(value):
    """Whether any value is a tuple of a first place and a list of words that lie within memory from there on."""
    if not (isinstance(value, tuple) and len(value) == 2):
        return False
    first, words = value
    if not (is_memory_place(first) and is_word_list(words)):
        return False
    return first + len(words) <= MEMORY_PLACES
