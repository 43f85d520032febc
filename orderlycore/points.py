"""POINTS: what the row of a step may meet."""

from orderlycore.basics import is_between, is_list
from orderlycore.errors import InvalidPoint, InvalidPoints
from orderlycore.meanings import need_row, need_row_list

# Of each word the least and the greatest number, and where a row has what must be this number.
_KINDS = {
    "at": (0, 4095, 0),
    "register": (0, 7, 3),
    "place": (0, 1023, 5),
    "cause": (1, 31, 2),
}


def is_point(value):
    """Whether any value is a point."""
    if not (isinstance(value, tuple) and len(value) == 2 and isinstance(value[0], str) and value[0] in _KINDS):
        return False
    least, greatest, _ = _KINDS[value[0]]
    return is_between(value[1], least, greatest)


def need_point(value):
    """Refuse what is no point."""
    if not is_point(value):
        raise InvalidPoint(value)


def meets(point, row):
    """Whether a row meets a point."""
    need_point(point)
    need_row(row)
    return _meets(point, row)


def first_met(points, rows):
    """The tuple of the positions of the first row that meets a point, and of that point; None if none does."""
    if not (is_list(points) and all([is_point(point) for point in points])):
        raise InvalidPoints(points)
    need_row_list(rows)
    for at, row in enumerate(rows):
        for position, point in enumerate(points):
            if _meets(point, row):
                return (at, position)
    return None


def _meets(point, row):
    word, number = point
    return row[_KINDS[word][2]] == number
