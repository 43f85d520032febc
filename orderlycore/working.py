"""What is renamed is issued, runs, and is finished, whatever its sequence."""

from orderlycore.causes import DIVISION_BY_NOUGHT, NO_CAUSE, NO_SUCH_PLACE
from orderlycore.effects import divides_by_nought, near_address, next_address, result_of, went_to
from orderlycore.flights import trap_row
from orderlycore.memory import is_memory_place

# Kinds of which a setting tells how many cycles they run; all others that only reckon run one.
_SLOW = ("times", "over")
_MOVES = ("branch", "jump")


def finish(core):
    """The units count one cycle, and those that end now are finished."""
    units = core.flights.units
    units.aged()
    ended = units.finished()
    while ended is not None:
        number, outcome = ended
        core.flights.end(number, outcome)
        entry = core.flights.entry(number)
        if entry.kind in _MOVES and outcome[2] != entry.row[4]:
            core.restart(number + 1, outcome[2])
        ended = units.finished()


def issue(core):
    """As many rows of the stations as may be begin to run."""
    flights = core.flights
    for _ in range(core.setting("issue")):
        number = flights.stations.chosen(flights.orders.oldest(), core.front.whims, core.setting("twist"))
        if number is None:
            return
        flights.stations.picked(number)
        _begin(core, number)


def _begin(core, number):
    entry = core.flights.entry(number)
    words = {which: core.flights.renamer.value(cell) for which, cell in entry.cells.items()}
    if entry.kind == "load":
        _load(core, number, entry, words)
    elif entry.kind == "store":
        _store(core, number, entry, words)
    elif divides_by_nought(entry.instruction, words):
        _run(core, number, 1, _failed(entry, DIVISION_BY_NOUGHT, 0))
    else:
        cycles = core.setting(entry.kind) if entry.kind in _SLOW else 1
        _run(core, number, cycles, _reckoned(entry, words))


def _run(core, number, cycles, outcome):
    core.flights.units.begun(number, cycles, outcome)


def _reckoned(entry, words):
    """The outcome of what hangs on registers alone."""
    address = entry.row[0]
    if entry.kind in _MOVES:
        value = None if entry.lending is None else next_address(address)
        return (_row(entry, value), 0, went_to(address, entry.instruction, words))
    if entry.lending is None:
        return _went_on(entry, _row(entry, None))
    return _went_on(entry, _row(entry, result_of(entry.instruction, words)))


def _load(core, number, entry, words):
    address = near_address(entry.instruction, words)
    place, cause, cycles = _looked_up(core, entry, address, "load")
    if cause != NO_CAUSE:
        _run(core, number, 1 + cycles, _failed(entry, cause, address))
    elif not is_memory_place(place):
        # Reading a device leaves a mark, so it is done when the load is sure.
        entry.device = place
    else:
        word, more = _read(core, number, place)
        _run(core, number, cycles + more, _went_on(entry, _row(entry, word)))


def _read(core, number, place):
    """The word that a load reads at a place of memory, and the cycles that this takes."""
    queues = core.flights.queues
    source = queues.source(number, place)
    if source[0] == "store":
        queues.read(number, place, source[1])
        return (source[2], 1)
    queues.read(number, place, None)
    return core.front.hierarchy.read(place)


def _store(core, number, entry, words):
    address = near_address(entry.instruction, words)
    place, cause, cycles = _looked_up(core, entry, address, "store")
    if cause != NO_CAUSE:
        _run(core, number, 1 + cycles, _failed(entry, cause, address))
        return
    stored = words[entry.instruction[1]]
    row = (*entry.row[:2], NO_CAUSE, None, None, place, stored)
    _run(core, number, 1 + cycles, _went_on(entry, row))
    early = core.flights.queues.known(number, place, stored)
    if early is not None:
        core.restart(early, core.flights.entry(early).row[0])


def _looked_up(core, entry, address, way):
    """The tuple (place or None, cause, cycles) of an address; the entry leans on what this hangs on."""
    place, cause, leans, cycles = core.front.looked_up(core.controls(), address, way)
    entry.leans = entry.leans + leans
    if cause == NO_CAUSE and not (is_memory_place(place) or core.has_device(place)):
        return (None, NO_SUCH_PLACE, cycles)
    return (place, cause, cycles)


def _row(entry, value):
    """The row of the step of an entry that does not trap, and writes the value if it writes a register."""
    which = None if entry.lending is None else entry.lending[0]
    return (*entry.row[:2], NO_CAUSE, which, value, None, None)


def _went_on(entry, row):
    """The outcome of an entry behind which comes the next address."""
    return (row, 0, next_address(entry.row[0]))


def _failed(entry, cause, bad):
    """The outcome of an entry that traps."""
    return (trap_row(entry.row, cause), bad, next_address(entry.row[0]))
