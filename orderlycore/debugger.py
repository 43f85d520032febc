"""A DEBUGGER: a core with a plain machine beside it, points to run to, and marks to go back to."""

from orderlycore.core import Core
from orderlycore.cycles import cycle, need_cycles, need_steps
from orderlycore.errors import InvalidDebugger, InvalidLabel, NoSuchLabel, TooMany
from orderlycore.memory import Memory
from orderlycore.plain import steps_on
from orderlycore.points import first_met, need_point
from orderlycore.states import State
from orderlycore.whims import Whims

_LETTERS = "abcdefghijklmnopqrstuvwxyz"
_MOST_LETTERS = 8
_MOST_POINTS = 8
_MOST_MARKS = 8


class Debugger:
    """A core, a state of the same memory and inputs beside it, points and marks."""

    def __init__(self, settings, whims, memory, inputs, raises):
        self._core = Core(settings, whims, memory, inputs, raises)
        self._state = State(memory, inputs)
        self._agrees = True
        self._points = {}
        # Of each label the tuple of a core, a state, and whether they agreed; these are copied, never changed.
        self._marks = {}

    @property
    def clock(self):
        """How many cycles the core has done."""
        return self._core.clock

    @property
    def steps(self):
        """How many steps the core has done."""
        return self._core.steps

    @property
    def home(self):
        """The address of the core's next step."""
        return self._core.home

    @property
    def halted(self):
        """Whether the core is halted."""
        return self._core.halted

    @property
    def agrees(self):
        """Whether core and state have been alike behind each cycle so far."""
        return self._agrees

    def rows(self):
        """The list of the rows of all steps."""
        return self._core.rows()

    def core(self):
        """A copy of the core."""
        return self._core.copy()

    def beside(self):
        """A copy of the state beside the core."""
        return self._state.copy()

    def set_point(self, label, point):
        """A point is kept under a label."""
        need_label(label)
        need_point(point)
        if label not in self._points and len(self._points) == _MOST_POINTS:
            raise TooMany("points", _MOST_POINTS)
        self._points[label] = point

    def drop_point(self, label):
        """The point under a label is kept no more."""
        _need_kept(self._points, label)
        del self._points[label]

    def points(self):
        """The sorted list of the tuples (label, point)."""
        return sorted(self._points.items())

    def mark(self, label):
        """How core and state stand now is kept under a label."""
        need_label(label)
        if label not in self._marks and len(self._marks) == _MOST_MARKS:
            raise TooMany("marks", _MOST_MARKS)
        self._marks[label] = (self._core.copy(), self._state.copy(), self._agrees)

    def back(self, label):
        """Core and state stand again as they are kept under a label."""
        _need_kept(self._marks, label)
        core, state, agrees = self._marks[label]
        self._core = core.copy()
        self._state = state.copy()
        self._agrees = agrees

    def marks(self):
        """The sorted list of the labels of all marks."""
        return sorted(list(self._marks))

    def cycle(self):
        """One cycle: the list of the rows of its steps."""
        rows = cycle(self._core)
        told = steps_on(self._state, len(rows), self._core.raised())
        self._agrees = self._agrees and told == rows and self._is_alike()
        return rows

    def step(self):
        """Cycles till one has steps: the list of its rows; none if the core is halted."""
        rows = []
        while not rows and not self._core.halted:
            rows = self.cycle()
        return rows

    def run(self, cycles):
        """At most so many cycles till a point is met: the tuple of how many were done, and its label or None."""
        need_cycles(cycles)
        done = 0
        label = None
        while done < cycles and label is None and not self._core.halted:
            label = self._met_by(self.cycle())
            done += 1
        return (done, label)

    def run_to(self, steps):
        """Cycles till there are so many steps in all, or the core is halted: how many were done."""
        need_steps(steps)
        done = 0
        while self._core.steps < steps and not self._core.halted:
            self.cycle()
            done += 1
        return done

    def copy(self):
        """A debugger that is as this one is now, and goes on by itself."""
        made = Debugger(self._core.settings(), Whims([]), Memory(), [], [])
        made._core = self._core.copy()
        made._state = self._state.copy()
        made._agrees = self._agrees
        made._points = dict(self._points)
        made._marks = dict(self._marks)
        return made

    def _is_alike(self):
        core = self._core
        state = self._state
        return (
            core.registers() == state.registers()
            and core.controls() == state.controls()
            and core.home == state.address
            and core.halted == state.halted
        )

    def _met_by(self, rows):
        """The label of the point that is met by rows, None if none is."""
        points = self.points()
        met = first_met([point for _, point in points], rows)
        return None if met is None else points[met[1]][0]


def is_point_label(value):
    """Whether any value is a label of points and marks."""
    if not (isinstance(value, str) and 1 <= len(value) <= _MOST_LETTERS):
        return False
    return all([letter in _LETTERS for letter in value])


def need_label(value):
    """Refuse what is no label of points and marks."""
    if not is_point_label(value):
        raise InvalidLabel(value)


def need_debugger(value):
    """Refuse what is no Debugger."""
    if not isinstance(value, Debugger):
        raise InvalidDebugger(value)


def _need_kept(table, label):
    """Refuse what is no label, and a label under which nothing is kept."""
    need_label(label)
    if label not in table:
        raise NoSuchLabel(label)
