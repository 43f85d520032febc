"""UNITS: rows run here for so many cycles, and then tell what they come to."""

from orderlycore.basics import drop_from, is_between, need_number
from orderlycore.errors import AlreadyThere, InvalidCycles, NoNumber

_MOST_CYCLES = 1000000


class Units:
    """Rows by their numbers, with the cycles that are left, and what will be told."""

    def __init__(self):
        # Of each number the tuple of the cycles left and of what will be told.
        self._rows = {}

    @property
    def held(self):
        """How many rows are there."""
        return len(self._rows)

    def begun(self, number, cycles, told):
        """A row runs from now on, for so many cycles."""
        need_number(number)
        if not is_between(cycles, 1, _MOST_CYCLES):
            raise InvalidCycles(cycles)
        if number in self._rows:
            raise AlreadyThere(number)
        self._rows[number] = (cycles, told)

    def aged(self):
        """One cycle less for each row that has one left."""
        self._rows = {number: (max(left - 1, 0), told) for number, (left, told) in self._rows.items()}

    def finished(self):
        """The tuple (number, told) of the first row without cycles left, which goes out; None without one."""
        ended = [number for number in self.numbers() if self._rows[number][0] == 0]
        if not ended:
            return None
        number = ended[0]
        told = self._rows[number][1]
        del self._rows[number]
        return (number, told)

    def numbers(self):
        """The rising list of the numbers of all rows."""
        return sorted(list(self._rows))

    def cycles_left(self, number):
        """How many cycles a row has left."""
        need_number(number)
        if number not in self._rows:
            raise NoNumber(number)
        return self._rows[number][0]

    def dropped(self, number):
        """Drop from a number on: the list of the numbers that went, the greatest one first."""
        return drop_from(self._rows, number)

    def copy(self):
        """Units that are as these are now, and change apart from them; what will be told is the same."""
        made = Units()
        made._rows = dict(self._rows)
        return made

    def __eq__(self, other):
        return isinstance(other, Units) and self._rows == other._rows
