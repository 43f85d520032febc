"""The reorder buffer: ORDERS hold what is in flight, and let it leave in the sequence in which it was entered."""

from orderlycore.basics import need_many, need_number
from orderlycore.errors import NoNumber, NoRoom, NotDone, NotOpen

_MOST_ROOMS = 32


class Orders:
    """Things under running numbers, the oldest one first."""

    def __init__(self, many):
        need_many(many, 1, _MOST_ROOMS)
        self._many = many
        # The number of the oldest thing in flight, or of the next one that is entered, if there is none.
        self._first = 0
        self._things = []
        self._dones = []

    @property
    def many(self):
        """How many may be in flight."""
        return self._many

    @property
    def held(self):
        """How many are in flight."""
        return len(self._things)

    @property
    def upcoming(self):
        """The number that the next one entered gets."""
        return self._first + len(self._things)

    def numbers(self):
        """The rising list of the numbers in flight."""
        return list(range(self._first, self.upcoming))

    def oldest(self):
        """The least number in flight, None without one."""
        return self._first if self._things else None

    def entered(self, thing):
        """Enter a thing: its number."""
        if len(self._things) == self._many:
            raise NoRoom()
        number = self.upcoming
        self._things.append(thing)
        self._dones.append(False)
        return number

    def thing(self, number):
        """The thing with a number."""
        return self._things[self._where(number)]

    def changed(self, number, thing):
        """The thing with a number is another one from now on."""
        self._things[self._where(number)] = thing

    def is_done(self, number):
        """Whether the thing with a number is done."""
        return self._dones[self._where(number)]

    def done(self, number):
        """The thing with a number is done from now on."""
        position = self._where(number)
        if self._dones[position]:
            raise NotOpen()
        self._dones[position] = True

    def left(self):
        """The oldest thing, which is done, leaves: the tuple (number, thing)."""
        if not (self._things and self._dones[0]):
            raise NotDone()
        number = self._first
        self._first = number + 1
        self._dones.pop(0)
        return (number, self._things.pop(0))

    def dropped(self, number):
        """Drop from a number on: the list of the tuples (number, thing) that went, the greatest number first."""
        need_number(number)
        keep = max(number - self._first, 0)
        gone = list(enumerate(self._things[keep:], start=self._first + keep))
        del self._things[keep:]
        del self._dones[keep:]
        return gone[::-1]

    def copy(self):
        """Orders that are as these are now, and change apart from them; the things are the same."""
        made = Orders(self._many)
        made._first = self._first
        made._things = list(self._things)
        made._dones = list(self._dones)
        return made

    def __eq__(self, other):
        return (
            isinstance(other, Orders)
            and self._many == other._many
            and self._first == other._first
            and self._dones == other._dones
            and self._things == other._things
        )

    def _where(self, number):
        """Where the thing with a number stands."""
        need_number(number)
        position = number - self._first
        if not 0 <= position < len(self._things):
            raise NoNumber(number)
        return position
