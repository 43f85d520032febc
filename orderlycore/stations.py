"""Reservation STATIONS: rows wait here until all that they read is ready."""

from orderlycore.basics import drop_from, is_between, is_list, need_many, need_number
from orderlycore.errors import AlreadyThere, InvalidReads, InvalidTwist, NoNumber, NoRoom
from orderlycore.whims import need_whims

_MOST_ROWS = 32
_REGISTER_PLACES = 48
_MOST_READS = 3
_MOST_READY = 48


class Stations:
    """Rows by their numbers, with the register places that they read, and those that they wait for."""

    def __init__(self, many):
        need_many(many, 1, _MOST_ROWS)
        self._many = many
        # Of each number the tuple of the list of its reads, and the rising list of those still waited for.
        self._rows = {}

    @property
    def many(self):
        """How many rows there is room for."""
        return self._many

    @property
    def held(self):
        """How many rows are there."""
        return len(self._rows)

    def put(self, number, reads, ready):
        """A row comes in, of whose reads some are ready now."""
        need_number(number)
        _need_reads(reads, _MOST_READS)
        _need_reads(ready, _MOST_READY)
        if number in self._rows:
            raise AlreadyThere(number)
        if len(self._rows) == self._many:
            raise NoRoom()
        waits = sorted(set([place for place in reads if place not in ready]))
        self._rows[number] = (list(reads), waits)

    def woken(self, at):
        """A register place is ready from now on."""
        if not _is_register_place(at):
            raise InvalidReads(at)
        self._rows = {
            number: (reads, [place for place in waits if place != at])
            for number, (reads, waits) in self._rows.items()
        }

    def ready(self):
        """The rising list of the numbers of the rows that wait for nothing."""
        return [number for number in self.numbers() if not self._rows[number][1]]

    def waits_for(self, number):
        """The rising list of the places that a row still waits for."""
        return list(self._row(number)[1])

    def reads(self, number):
        """The list of the places that a row reads, as they were put."""
        return list(self._row(number)[0])

    def picked(self, number):
        """A row goes out: the list of its reads."""
        reads = self.reads(number)
        del self._rows[number]
        return reads

    def chosen(self, oldest, whims, twist):
        """The number of the ready row that is chosen, None without one; oldest is the oldest number in flight."""
        if oldest is not None:
            need_number(oldest)
        need_whims(whims)
        if not is_between(twist, 0, 1):
            raise InvalidTwist(twist)
        ready = self.ready()
        if not ready:
            return None
        if twist == 0:
            return ready[0]
        # The oldest one in flight never has to wait for a whim, so that it goes on.
        if oldest in ready:
            return oldest
        return ready[whims.take(len(ready))]

    def numbers(self):
        """The rising list of the numbers of all rows."""
        return sorted(list(self._rows))

    def dropped(self, number):
        """Drop from a number on: the list of the numbers that went, the greatest one first."""
        return drop_from(self._rows, number)

    def copy(self):
        """Stations that are as these are now, and change apart from them."""
        made = Stations(self._many)
        made._rows = dict(self._rows)
        return made

    def __eq__(self, other):
        return isinstance(other, Stations) and self._many == other._many and self._rows == other._rows

    def _row(self, number):
        need_number(number)
        if number not in self._rows:
            raise NoNumber(number)
        return self._rows[number]


def _is_register_place(value):
    return is_between(value, 0, _REGISTER_PLACES - 1)


def _need_reads(value, most):
    """Refuse what is no list of at most so many register places."""
    if not (is_list(value) and len(value) <= most and all([_is_register_place(place) for place in value])):
        raise InvalidReads(value)
