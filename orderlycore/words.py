"""WORDS, ADDRESSES, PLACES and registers: what they are, and how words are reckoned with."""

from orderlycore.basics import is_between, is_list
from orderlycore.errors import DividedByNought, InvalidAddress, InvalidLow, InvalidMany, InvalidPlace
from orderlycore.errors import InvalidRegister, InvalidWord

_WORD_BITS = 16
WORDS = 65536
ADDRESSES = 4096
PLACES = 1024
REGISTERS = 8


def is_word(value):
    """Whether any value is a WORD."""
    return is_between(value, 0, WORDS - 1)


def is_address(value):
    """Whether any value is an ADDRESS."""
    return is_between(value, 0, ADDRESSES - 1)


def is_place(value):
    """Whether any value is a PLACE."""
    return is_between(value, 0, PLACES - 1)


def is_register(value):
    """Whether any value tells a register."""
    return is_between(value, 0, REGISTERS - 1)


def is_word_list(value):
    """Whether any value is a list of WORDS."""
    return is_list(value) and all([is_word(one) for one in value])


def need_word(value):
    """Refuse what is no WORD."""
    if not is_word(value):
        raise InvalidWord(value)


def need_address(value):
    """Refuse what is no ADDRESS."""
    if not is_address(value):
        raise InvalidAddress(value)


def need_place(value):
    """Refuse what is no PLACE."""
    if not is_place(value):
        raise InvalidPlace(value)


def need_register(value):
    """Refuse what tells no register."""
    if not is_register(value):
        raise InvalidRegister(value)


def need_words(one, other):
    """Refuse the first one that is no WORD."""
    need_word(one)
    need_word(other)


def plus(one, other):
    """The sum of two words."""
    need_words(one, other)
    return (one + other) % WORDS


def minus(one, other):
    """The difference of two words."""
    need_words(one, other)
    return (one - other) % WORDS


def times(one, other):
    """The product of two words."""
    need_words(one, other)
    return one * other % WORDS


def over(one, other):
    """The quotient of two words, rounded down."""
    need_words(one, other)
    if other == 0:
        raise DividedByNought()
    return one // other


def both(one, other):
    """The bits that are 1 in both words."""
    need_words(one, other)
    return one & other


def either(one, other):
    """The bits that are 1 in either one of two words."""
    need_words(one, other)
    return one | other


def unlike(one, other):
    """The bits that are 1 in just one of two words."""
    need_words(one, other)
    return one ^ other


def need_shift(one, many):
    """Refuse what cannot be shifted, or not so far."""
    need_word(one)
    if not is_word(many):
        raise InvalidMany(many)


def shifted_up(one, many):
    """The word times 2 so many times."""
    need_shift(one, many)
    # A far shift would build a huge number only to cut it off again.
    if many >= _WORD_BITS:
        return 0
    return (one << many) % WORDS


def shifted_down(one, many):
    """The word divided by 2 so many times, rounded down."""
    need_shift(one, many)
    return one >> many


def signed(word):
    """The word as a number from -32768 to 32767."""
    need_word(word)
    if word >= WORDS // 2:
        return word - WORDS
    return word


def need_bits(word, low, many):
    """Refuse bits that no word has."""
    need_word(word)
    if not is_between(low, 0, _WORD_BITS - 1):
        raise InvalidLow(low)
    if not is_between(many, 1, _WORD_BITS - low):
        raise InvalidMany(many)


def bits(word, low, many):
    """The number that so many bits from the low one on tell."""
    need_bits(word, low, many)
    return (word >> low) % (1 << many)


def with_bits(word, low, many, value):
    """The word with so many bits from the low one on anew."""
    need_bits(word, low, many)
    if not is_between(value, 0, (1 << many) - 1):
        raise InvalidWord(value)
    return word + ((value - bits(word, low, many)) << low)
