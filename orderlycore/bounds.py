"""BOUNDS: within how many cycles there is a next step, by the settings alone."""

from orderlycore.core import need_core
from orderlycore.settings import need_settings

# A row that is fetched, and a load, reads at most two entries and one word.
_READINGS = 3
# Ahead of running a row is renamed and issued, behind it it retires.
_STAGES = 3


def read_cycles(settings):
    """How many cycles a reading takes at most."""
    need_settings(settings)
    return 1 + sum([settings.value(name) for name in ("wait2", "waitm", "whim")])


def fetch_cycles(settings):
    """Within how many cycles a row is fetched."""
    return _READINGS * read_cycles(settings)


def work_cycles(settings):
    """Within how many cycles an instruction runs."""
    return max(_READINGS * read_cycles(settings), settings.value("times"), settings.value("over"))


def most_cycles(settings):
    """How many cycles lie between two steps at most."""
    return fetch_cycles(settings) + work_cycles(settings) + _STAGES


def goes_on(core):
    """Whether no step of a core came later than that, and the next one is not late, either."""
    need_core(core)
    most = most_cycles(core.settings())
    waits = core.waits()
    # The first wait is told from the cycle -1 on, so together they lead just behind the cycle of the last step.
    since = core.clock - sum(waits)
    return all([wait <= most for wait in waits]) and (core.halted or since <= most)
