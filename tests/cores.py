"""What tests of cores share: how they are made, and what is told of them."""

from worlds import put_all, words

from orderlycore.core import Core
from orderlycore.cycles import run
from orderlycore.memory import Memory
from orderlycore.settings import Settings
from orderlycore.whims import Whims

NONE = (None,) * 4
# Each reading takes one cycle.
AT_ONCE = [("wait2", 0), ("waitm", 0), ("line", 16), ("sets1", 8), ("ways1", 4), ("sets2", 16), ("ways2", 4)]
# And four instructions go through each part in a cycle.
WIDE = AT_ONCE + [("fetch", 4), ("issue", 4), ("retire", 4), ("reorder", 32), ("stations", 16), ("loads", 8),
                  ("stores", 8), ("physical", 48), ("queue", 8)]


def core_of(settings, *instructions, numbers=(), inputs=(), raises=(), parts=()):
    """A core with instructions (numbers are words themselves) from place 0 on; later settings count."""
    memory = Memory()
    put_all(memory, 0, words(*instructions))
    for first, others in parts:
        put_all(memory, first, words(*others))
    return Core(Settings(list(dict(settings).items())), Whims(numbers), memory, list(inputs), list(raises))


def cycles_of(core):
    """The cycle of each step."""
    found, now = [], -1
    for wait in core.waits():
        now += wait
        found.append(now)
    return found


def steps_at(core, cycles=200, steps=200):
    """Of each step of a run of a core its address and its cycle."""
    run(core, cycles, steps)
    return [(row[0], cycle) for row, cycle in zip(core.rows(), cycles_of(core))]


def told(core):
    """All that a core tells."""
    return (core.clock, core.steps, core.home, core.halted, core.registers(), core.controls(), core.memory().rows(),
            core.devices().told(), core.rows(), core.raised(), core.waits(), core.in_flight())
