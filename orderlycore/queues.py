"""Load and store QUEUES: where loads read, and which of them have read too early."""

from orderlycore.basics import is_count, need_many, need_number
from orderlycore.errors import HasRead, InvalidNumber, InvalidSource, IsKnown, NoRoom, NotOldest, UnknownNumber
from orderlycore.words import need_place, need_word

_MOST_ROOMS = 8
# What is kept of a load that has not read, and of a store that is not known.
_NOTHING = (None, None)


class Queues:
    """Loads and stores by their numbers, each sort in a queue of its own, in the program's sequence."""

    def __init__(self, loads, stores):
        need_many(loads, 1, _MOST_ROOMS)
        need_many(stores, 1, _MOST_ROOMS)
        self._load_rooms = loads
        self._store_rooms = stores
        # Of each load the tuple of the place and the source by which it has read, the earliest load first.
        self._loads = {}
        # Of each store the tuple of its place and word, the earliest store first.
        self._stores = {}

    @property
    def can_load(self):
        """Whether there is room for a load."""
        return len(self._loads) < self._load_rooms

    @property
    def can_store(self):
        """Whether there is room for a store."""
        return len(self._stores) < self._store_rooms

    def load_entered(self, number):
        """A load enters."""
        self._need_above_all(number)
        if not self.can_load:
            raise NoRoom()
        self._loads[number] = _NOTHING

    def store_entered(self, number):
        """A store enters."""
        self._need_above_all(number)
        if not self.can_store:
            raise NoRoom()
        self._stores[number] = _NOTHING

    def known(self, number, place, word):
        """The store is known from now on: the earliest load that has read too early for it, None without one."""
        _need_one_of(self._stores, number)
        need_place(place)
        need_word(word)
        if self._stores[number] != _NOTHING:
            raise IsKnown()
        self._stores[number] = (place, word)
        for load, (read_place, source) in self._loads.items():
            if load > number and read_place == place and (source is None or source < number):
                return load
        return None

    def source(self, number, place):
        """Where a load reads at a place: the tuple ("store", number, word), or ("memory",)."""
        _need_one_of(self._loads, number)
        need_place(place)
        found = ("memory",)
        for store, (store_place, word) in self._stores.items():
            if store < number and store_place == place:
                found = ("store", store, word)
        return found

    def read(self, number, place, source):
        """The load has read at a place: from a store, or in memory if the source is None."""
        _need_one_of(self._loads, number)
        need_place(place)
        if source is not None and not self._is_source(source, number, place):
            raise InvalidSource(source)
        if self._loads[number] != _NOTHING:
            raise HasRead()
        self._loads[number] = (place, source)

    def leave(self, number):
        """The oldest of all in both queues leaves."""
        queue = self._loads if _is_one_of(self._loads, number) else self._stores
        _need_one_of(queue, number)
        if number != min(self._all_numbers()):
            raise NotOldest()
        del queue[number]

    def dropped(self, number):
        """Drop from a number on."""
        need_number(number)
        self._loads = {one: kept for one, kept in self._loads.items() if one < number}
        self._stores = {one: kept for one, kept in self._stores.items() if one < number}

    def loads(self):
        """The list of the tuples (number, place, source) of all loads, by rising numbers."""
        return [(number, place, source) for number, (place, source) in self._loads.items()]

    def stores(self):
        """The list of the tuples (number, place, word) of all stores, by rising numbers."""
        return [(number, place, word) for number, (place, word) in self._stores.items()]

    def copy(self):
        """Queues that are as these are now, and change apart from them."""
        made = Queues(self._load_rooms, self._store_rooms)
        made._loads = dict(self._loads)
        made._stores = dict(self._stores)
        return made

    def __eq__(self, other):
        return (
            isinstance(other, Queues)
            and self._load_rooms == other._load_rooms
            and self._store_rooms == other._store_rooms
            and self._loads == other._loads
            and self._stores == other._stores
        )

    def _all_numbers(self):
        return list(self._loads) + list(self._stores)

    def _need_above_all(self, value):
        if not is_count(value) or any([number >= value for number in self._all_numbers()]):
            raise InvalidNumber(value)

    def _is_source(self, value, number, place):
        """Whether any value is the number of a known store of the place that is earlier than the load."""
        return _is_one_of(self._stores, value) and value < number and self._stores[value][0] == place


def _is_one_of(queue, value):
    return is_count(value) and value in queue


def _need_one_of(queue, value):
    if not _is_one_of(queue, value):
        raise UnknownNumber(value)
