"""CAUSES: why a machine traps."""

from orderlycore.basics import is_between
from orderlycore.errors import InvalidCause

NO_CAUSE = 0
BAD_INSTRUCTION = 1
SUPERVISOR_ONLY = 2
DIVISION_BY_NOUGHT = 3
NO_SUCH_PLACE = 7
SYSTEM_CALL = 8
# The cause of an interrupt is this one and its line.
FIRST_INTERRUPT = 16
_GREATEST_CAUSE = 31


def need_cause(value):
    """Refuse what is no cause of a trap."""
    if not is_between(value, 1, _GREATEST_CAUSE):
        raise InvalidCause(value)
