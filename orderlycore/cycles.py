"""The CYCLES of a core."""

from orderlycore.basics import is_between
from orderlycore.core import need_core
from orderlycore.errors import InvalidCycles, InvalidSteps
from orderlycore.flights import Entry
from orderlycore.retiring import retire
from orderlycore.working import finish, issue

_MOST_CYCLES = 100000
_MOST_STEPS = 100000


def cycle(core):
    """The core does one cycle: the list of the rows of its steps."""
    need_core(core)
    before = core.steps
    core.raise_lines()
    if not core.halted:
        retire(core)
    # It may have halted just now, and does nothing more in this cycle then.
    if not core.halted:
        finish(core)
        issue(core)
        _rename(core)
        _fetch(core)
    core.tick()
    return core.rows_from(before)


def run(core, cycles, steps):
    """Cycles till the core is halted, or has done so many, or so many steps: the list of the rows of its steps."""
    need_core(core)
    need_cycles(cycles)
    need_steps(steps)
    before = core.steps
    done = 0
    while done < cycles and core.steps - before < steps and not core.halted:
        cycle(core)
        done += 1
    return core.rows_from(before)


def need_cycles(value):
    """Refuse what does not tell how many cycles to do."""
    if not is_between(value, 0, _MOST_CYCLES):
        raise InvalidCycles(value)


def need_steps(value):
    """Refuse what does not tell how many steps to do."""
    if not is_between(value, 0, _MOST_STEPS):
        raise InvalidSteps(value)


def _rename(core):
    """Rows of the fetcher's queue come into flight, as many as may be and as there is room for."""
    fetcher = core.front.fetcher
    for _ in range(core.setting("fetch")):
        rows = fetcher.rows()
        if not rows:
            return
        entry = Entry(rows[0])
        if not core.flights.has_room(entry):
            return
        fetcher.pulled()
        core.flights.enter(entry)


def _fetch(core):
    core.front.cycle(core.controls())
