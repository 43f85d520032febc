"""RETIRING: steps are done, one by one, as the plain machine does them."""

from orderlycore.causes import FIRST_INTERRUPT, NO_CAUSE
from orderlycore.devices import Devices
from orderlycore.flights import trap_row
from orderlycore.memory import Memory, is_memory_place
from orderlycore.plain import do_alone
from orderlycore.states import state_with


def retire(core):
    """Retire as much as a cycle may."""
    for _ in range(core.setting("retire")):
        if not _goes_on(core):
            return


def _goes_on(core):
    """Retire one: whether retiring goes on behind it."""
    line = core.line_due()
    if line is not None:
        core.lower_line(line)
        core.trap(trap_row((core.home, None), FIRST_INTERRUPT + line), 0)
        return False
    number = core.flights.orders.oldest()
    if number is None:
        return False
    entry = core.flights.entry(number)
    if entry.is_alone():
        _retire_alone(core, number, entry)
        return False
    if not core.flights.orders.is_done(number):
        if entry.device is None:
            return False
        _read_device(core, number, entry)
    return _retire_done(core, number)


def _retire_alone(core, number, entry):
    """A lone instruction is done as the plain machine does it; what it reads and writes is not renamed."""
    state = state_with(
        core.registers(), core.controls(), core.home, Memory(), Devices([]), core.halted, core.steps
    )
    row = do_alone(state, entry.row[1], entry.instruction)
    core.restart(number, state.address)
    core.set_controls(state.controls())
    if row[3] is not None:
        core.flights.renamer.written(row[3], row[4])
    if entry.instruction[0] == "wrc" and row[2] == NO_CAUSE:
        core.front.buffer.cleared()
    if state.halted:
        core.halt()
    core.done(row, state.address)


def _read_device(core, number, entry):
    """A load that waits for a device is done now that it is the oldest one."""
    address, word = entry.row[:2]
    value = core.read_device(entry.device)
    row = (address, word, NO_CAUSE, entry.lending[0], value, None, None)
    core.flights.end(number, (row, 0, entry.row[4]))


def _retire_done(core, number):
    row, bad, behind = core.flights.entry(number).outcome
    if row[2] != NO_CAUSE:
        core.trap(row, bad)
        return False
    goes_on = True
    place = row[5]
    if place is not None:
        goes_on = _store(core, number, place, row[6])
    core.flights.leave()
    core.front.predictor.learned(row[0], row[1], behind)
    if not goes_on:
        core.restart(number + 1, behind)
    core.done(row, behind)
    return goes_on


def _store(core, number, place, word):
    """A store writes: whether nothing that comes later leans on its place."""
    if not is_memory_place(place):
        core.write_device(place, word)
        return True
    is_fetched = core.front.stored(place, word)
    return not (is_fetched or core.flights.leans_behind(number, place))
