"""CACHES: lines of memory in sets, of which the least recently used one goes out first."""

from orderlycore.basics import is_between, is_integer
from orderlycore.errors import InvalidLine, InvalidNumber, InvalidSets, InvalidWays, InvalidWords
from orderlycore.memory import need_memory_place
from orderlycore.words import is_word_list, need_word

_LINE_LENGTHS = (1, 2, 4, 8, 16)
_MOST_SETS = 16
_MOST_WAYS = 4


class Cache:
    """So many sets of lines, each of them with so many ways."""

    def __init__(self, line, sets, ways):
        if not (is_integer(line) and line in _LINE_LENGTHS):
            raise InvalidLine(line)
        if not is_between(sets, 1, _MOST_SETS):
            raise InvalidSets(sets)
        if not is_between(ways, 1, _MOST_WAYS):
            raise InvalidWays(ways)
        self._line = line
        self._ways = ways
        # Of each set the row of its lines, tuples (first place, words, whether it is written), the latest use last.
        self._sets = [[] for _ in range(sets)]

    def has(self, place):
        """Whether the line of a place is there."""
        return self._found(place) is not None

    def word(self, place):
        """The word at a place, None if its line is not there."""
        found = self._found(place)
        return None if found is None else found[1][place - found[0]]

    def words(self, place):
        """The list of the words of the line of a place, None if it is not there."""
        found = self._found(place)
        return None if found is None else list(found[1])

    def used(self, place):
        """Whether the line of a place is there; then it is used."""
        found = self._found(place)
        if found is None:
            return False
        row = self._row_of(place)
        row.remove(found)
        row.append(found)
        return True

    def enter(self, place, words):
        """The line of a place enters with these words: the line that goes out, None if none does."""
        need_memory_place(place)
        if not (is_word_list(words) and len(words) == self._line):
            raise InvalidWords(words)
        gone = None
        row = self._row_of(place)
        if self.out(place) is None and len(row) == self._ways:
            gone = _told(row.pop(0))
        row.append((self._first_of(place), list(words), False))
        return gone

    def put(self, place, word, is_written):
        """Whether the line of a place is there; then the word is put, and the line is written if it is told so."""
        need_memory_place(place)
        need_word(word)
        found = self._found(place)
        if found is None:
            return False
        first, words, was_written = found
        changed = list(words)
        changed[place - first] = word
        row = self._row_of(place)
        row[row.index(found)] = (first, changed, was_written or is_written)
        return True

    def out(self, place):
        """The line of a place goes out: this line, None if it is not there."""
        found = self._found(place)
        if found is None:
            return None
        self._row_of(place).remove(found)
        return _told(found)

    def out_at(self, number):
        """The line at a count goes out: this line, None if it is not there."""
        if not is_between(number, 0, len(self._sets) * self._ways - 1):
            raise InvalidNumber(number)
        row = self._sets[number // self._ways]
        position = number % self._ways
        if position >= len(row):
            return None
        return _told(row.pop(position))

    def lines(self):
        """For each set the list of its lines, the least recently used one first."""
        return [[_told(line) for line in row] for row in self._sets]

    def cleaned(self):
        """The list of all lines that were written; none is from now on."""
        told = []
        for row in self._sets:
            told.extend([_told(line) for line in row if line[2]])
        self._sets = [[(first, words, False) for first, words, _ in lines] for lines in self._sets]
        return told

    def copy(self):
        """A cache that is as this one is now, and changes apart from it."""
        made = Cache(self._line, len(self._sets), self._ways)
        made._sets = self.lines()
        return made

    def __eq__(self, other):
        return (
            isinstance(other, Cache)
            and self._line == other._line
            and self._ways == other._ways
            and self._sets == other._sets
        )

    def _first_of(self, place):
        """The first place of the line of a place."""
        return place // self._line * self._line

    def _row_of(self, place):
        """The row of the set in which the line of a place may lie."""
        return self._sets[place // self._line % len(self._sets)]

    def _found(self, place):
        """The line of a place, None if it is not there."""
        need_memory_place(place)
        first = self._first_of(place)
        for line in self._row_of(place):
            if line[0] == first:
                return line
        return None


def _told(line):
    first, words, is_written = line
    return (first, list(words), is_written)
