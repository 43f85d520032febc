"""WHIMS: the numbers that stand for all that is done by chance."""

from orderlycore.basics import is_between, is_count, is_list
from orderlycore.errors import InvalidMany, InvalidNumbers, InvalidWhims

_MOST_NUMBERS = 200
_GREATEST = 1000000


class Whims:
    """A list of COUNTS out of which numbers are taken one by one."""

    def __init__(self, numbers):
        if not are_whims(numbers):
            raise InvalidNumbers(numbers)
        self._numbers = list(numbers)
        self._position = 0

    def take(self, many):
        """Take one of so many; 0 behind the last number."""
        if not (is_count(many) and many > 0):
            raise InvalidMany(many)
        at = self._position
        self._position = at + 1
        if at < len(self._numbers):
            return self._numbers[at] % many
        return 0

    @property
    def taken(self):
        """How many times was taken, also behind the last number."""
        return self._position

    def copy(self):
        """Whims that are as these are now, and change apart from them."""
        made = Whims(self._numbers)
        made._position = self._position
        return made


def are_whims(value):
    """Whether any value is a list of numbers of which whims are made."""
    if not (is_list(value) and len(value) <= _MOST_NUMBERS):
        return False
    return all([is_between(number, 0, _GREATEST) for number in value])


def need_whims(value):
    """Refuse what is no Whims."""
    if not isinstance(value, Whims):
        raise InvalidWhims(value)
