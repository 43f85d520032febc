"""What a core MEANS, what it FOLLOWS, and what is LEFT OVER in it."""

from orderlycore.basics import is_between, is_list
from orderlycore.core import need_core
from orderlycore.errors import InvalidRow, InvalidRowList, InvalidTrace
from orderlycore.plain import raise_ahead, steps_on
from orderlycore.states import need_state, state_with
from orderlycore.words import is_address, is_place, is_register, is_word

_ROW_PARTS = 7
_GREATEST_CAUSE = 31


def is_row(value):
    """Whether any value is the ROW of a step."""
    if not (isinstance(value, tuple) and len(value) == _ROW_PARTS):
        return False
    address, word, cause, which, written, place, stored = value
    if not (is_address(address) and (word is None or is_word(word)) and is_between(cause, 0, _GREATEST_CAUSE)):
        return False
    if not ((which is None and written is None) or (is_register(which) and is_word(written))):
        return False
    return (place is None and stored is None) or (is_place(place) and is_word(stored))


def are_rows(value):
    """Whether any value is a list of ROWS."""
    return is_list(value) and all([is_row(one) for one in value])


def need_row(value):
    """Refuse what is no ROW."""
    if not is_row(value):
        raise InvalidRow(value)


def need_row_list(value):
    """Refuse what is no list of ROWS."""
    if not are_rows(value):
        raise InvalidRowList(value)


def meaning(core):
    """The state that a core means."""
    need_core(core)
    return state_with(
        core.registers(), core.controls(), core.home, core.memory(), core.devices(), core.halted, core.steps
    )


def follows(core, state):
    """Whether a core follows a state."""
    need_core(core)
    need_state(state)
    beside = state.copy()
    if steps_on(beside, core.steps, core.raised()) != core.rows():
        return False
    raise_ahead(beside, core.raised())
    return meaning(core) == beside


def first_unlike(rows, others):
    """The first position at which two lists of rows are unlike, or one alone has ended; None if they are equal."""
    for one in (rows, others):
        if not are_rows(one):
            raise InvalidTrace(one)
    for position, (row, other) in enumerate(zip(rows, others)):
        if row != other:
            return position
    if len(rows) != len(others):
        return min(len(rows), len(others))
    return None


def leftovers(core):
    """The list of the tuples (number, row or None) of what is left over, the oldest entry first."""
    need_core(core)
    flights = core.flights
    return [(number, _row_to_come(flights.entry(number))) for number in flights.orders.numbers()]


def _row_to_come(entry):
    return None if entry.outcome is None else entry.outcome[0]
