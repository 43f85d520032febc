"""The translation BUFFER: entries that are kept, so that tables need not be read again."""

from orderlycore.basics import is_count, need_many
from orderlycore.errors import InvalidBuffer, InvalidMany
from orderlycore.memory import need_memory_place
from orderlycore.pages import need_page
from orderlycore.words import need_place, need_word

_MOST_ENTRIES = 16


class Buffer:
    """Kept entries, tuples (page, first, second, word), from the eldest to the youngest."""

    def __init__(self, many):
        need_many(many, 1, _MOST_ENTRIES)
        self._most = many
        self._rows = []

    @property
    def most(self):
        """How many entries it keeps at most."""
        return self._most

    def rows(self):
        """The list of the kept entries, from the eldest on."""
        return list(self._rows)

    def found(self, page):
        """The kept entry of a page, None without one."""
        need_page(page)
        for row in self._rows:
            if row[0] == page:
                return row
        return None

    def entered(self, page, first, second, word):
        """An entry is the youngest one from now on."""
        need_page(page)
        need_memory_place(first)
        need_memory_place(second)
        need_word(word)
        rows = [row for row in self._rows if row[0] != page]
        if len(rows) == self._most:
            rows.pop(0)
        self._rows = rows + [(page, first, second, word)]

    def stored(self, place):
        """A word is stored at a place: all entries that lean on it go out."""
        need_place(place)
        self._rows = [row for row in self._rows if place not in row[1:3]]

    def out(self, position):
        """The entry at a position from the eldest on goes out, if there is one."""
        if not is_count(position):
            raise InvalidMany(position)
        if position < len(self._rows):
            self._rows.pop(position)

    def cleared(self):
        """All entries go out."""
        self._rows = []

    def copy(self):
        """A buffer that is as this one is now, and changes apart from it."""
        made = Buffer(self._most)
        made._rows = list(self._rows)
        return made

    def __eq__(self, other):
        return isinstance(other, Buffer) and self._most == other._most and self._rows == other._rows


def need_buffer(value):
    """Refuse what is no Buffer."""
    if not isinstance(value, Buffer):
        raise InvalidBuffer(value)
