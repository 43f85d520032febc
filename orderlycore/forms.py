"""What values of the SORTS are that have written forms."""

from orderlycore.basics import is_between, is_list
from orderlycore.core import are_raises
from orderlycore.devices import are_inputs, is_line
from orderlycore.meanings import are_rows
from orderlycore.memory import is_memory_place
from orderlycore.settings import Settings
from orderlycore.whims import are_whims
from orderlycore.words import REGISTERS, is_address, is_word, is_word_list

MOST_ROWS = 200
_MOST_STEPS = 999999
_SNAPSHOT_PARTS = 7
_DEVICES_PARTS = 5


def is_form(sort, value):
    """Whether any value is one of a sort."""
    if sort == "settings":
        return isinstance(value, Settings)
    if sort == "whims":
        return are_whims(value)
    if sort == "raises":
        return are_raises(value)
    if sort == "inputs":
        return are_inputs(value)
    if sort == "rows":
        return are_rows(value) and len(value) <= MOST_ROWS
    return _is_snapshot(value)


def are_eight_words(value):
    """Whether any value is a list of the words of registers, or of controls."""
    return is_word_list(value) and len(value) == REGISTERS


def is_step_count(value):
    """Whether any value is a number of steps as it may be written."""
    return is_between(value, 0, _MOST_STEPS)


def are_lines(value):
    """Whether any value is a rising list of lines."""
    return is_list(value) and all([is_line(one) for one in value]) and _are_rising(value)


def _is_snapshot(value):
    if not (isinstance(value, tuple) and len(value) == _SNAPSHOT_PARTS):
        return False
    registers, address, controls, is_halted, done, rows, devices = value
    return (
        are_eight_words(registers)
        and is_address(address)
        and are_eight_words(controls)
        and isinstance(is_halted, bool)
        and is_step_count(done)
        and _are_memory_rows(rows)
        and _are_devices(devices)
    )


def _are_memory_rows(value):
    if not (is_list(value) and all([_is_memory_row(one) for one in value])):
        return False
    return _are_rising([place for place, _ in value])


def _is_memory_row(value):
    if not (isinstance(value, tuple) and len(value) == 2):
        return False
    return is_memory_place(value[0]) and is_word(value[1]) and value[1] != 0


def _are_devices(value):
    if not (isinstance(value, tuple) and len(value) == _DEVICES_PARTS):
        return False
    left, outputs, done, timer, lines = value
    return (
        are_inputs(left) and is_word_list(outputs) and is_step_count(done) and is_word(timer) and are_lines(lines)
    )


def _are_rising(numbers):
    return all([one < other for one, other in zip(numbers, numbers[1:])])
