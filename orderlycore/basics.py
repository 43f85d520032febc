"""What an INTEGER, a COUNT and a list are."""

from orderlycore.errors import InvalidMany, InvalidNumber


def is_integer(value):
    """Whether any value is an INTEGER."""
    return isinstance(value, int) and not isinstance(value, bool)


def is_count(value):
    """Whether any value is a COUNT."""
    return is_integer(value) and value >= 0


def is_between(value, least, most):
    """Whether any value is an INTEGER from the least to the greatest one."""
    return is_integer(value) and least <= value <= most


def is_list(value):
    """Whether any value may be passed where a list is wanted."""
    return isinstance(value, (list, tuple))


def need_many(value, least, most):
    """Refuse what is no COUNT from the least to the greatest one."""
    if not is_between(value, least, most):
        raise InvalidMany(value)


def need_number(value):
    """Refuse what is no COUNT."""
    if not is_count(value):
        raise InvalidNumber(value)


def drop_from(rows, number):
    """Rows by their numbers lose all from this number on: the list of the numbers that went, the greatest one first."""
    need_number(number)
    gone = sorted([one for one in rows if one >= number], reverse=True)
    for one in gone:
        del rows[one]
    return gone
