"""The CORE: all that a processor has that works out of order, between two cycles."""

from orderlycore.basics import is_between, is_list
from orderlycore.causes import NO_CAUSE
from orderlycore.controls import entry_address, fresh_controls, line_taken, trapped
from orderlycore.devices import Devices, is_line
from orderlycore.errors import InvalidCore, InvalidRaises
from orderlycore.flights import Flights
from orderlycore.front import Front
from orderlycore.memory import Memory, need_memory
from orderlycore.settings import need_settings
from orderlycore.whims import Whims, need_whims

MOST_RAISES = 40
_LAST_CYCLE = 100000


class Core:
    """A front that fetches, what is in flight behind it, and what is sure: controls, devices, home, steps."""

    def __init__(self, settings, whims, memory, inputs, raises):
        need_settings(settings)
        need_whims(whims)
        need_memory(memory)
        self._devices = Devices(inputs)
        if not are_raises(raises):
            raise InvalidRaises(raises)
        self._settings = settings
        self._raises = list(raises)
        self.front = Front(settings, whims.copy(), memory.copy())
        self.flights = Flights(settings)
        self._controls = fresh_controls()
        self._home = 0
        self._clock = 0
        self._halted = False
        self._rows = []
        # Of each step the cycle in which it was done.
        self._cycles_of_rows = []
        self._raised = []

    @property
    def clock(self):
        """How many cycles it has done."""
        return self._clock

    @property
    def steps(self):
        """How many steps it has done."""
        return len(self._rows)

    @property
    def home(self):
        """The address of its next step."""
        return self._home

    @property
    def halted(self):
        """Whether it is halted."""
        return self._halted

    def registers(self):
        """The list of the eight words of the registers."""
        return self.flights.renamer.kept_words()

    def controls(self):
        """The list of the eight words of the controls."""
        return list(self._controls)

    def memory(self):
        """A memory of the words seen."""
        return self.front.hierarchy.memory_seen()

    def devices(self):
        """A copy of its devices."""
        return self._devices.copy()

    def rows(self):
        """The list of the rows of all steps."""
        return list(self._rows)

    def raised(self):
        """The list of the tuples (steps so far, line) of all lines that were raised from outside."""
        return list(self._raised)

    def waits(self):
        """For each step the number of its cycle less that of the step ahead of it."""
        # The first one is told as if a step had been ahead of the first cycle.
        return [here - ahead for ahead, here in zip([-1] + self._cycles_of_rows, self._cycles_of_rows)]

    def in_flight(self):
        """For each entry the tuple (number, address, word or None, whether it is done, its cause)."""
        return [self._told_of(number) for number in self.flights.orders.numbers()]

    def copy(self):
        """A core that is as this one is now, and changes apart from it."""
        made = Core(self._settings, Whims([]), Memory(), [], self._raises)
        made.front = self.front.copy()
        made.flights = self.flights.copy()
        made._devices = self._devices.copy()
        made._controls = list(self._controls)
        made._home = self._home
        made._clock = self._clock
        made._halted = self._halted
        made._rows = list(self._rows)
        made._cycles_of_rows = list(self._cycles_of_rows)
        made._raised = list(self._raised)
        return made

    def rows_from(self, number):
        """The list of the rows of all steps from the one with this number on."""
        return self._rows[number:]

    def setting(self, name):
        """The value of a setting."""
        return self._settings.value(name)

    def settings(self):
        """Its settings."""
        return self._settings

    def raise_lines(self):
        """The lines of this cycle's raises are raised."""
        for cycle, line in self._raises:
            if cycle == self._clock:
                self._devices.raised(line)
                self._raised.append((self.steps, line))

    def tick(self):
        """The clock is one more."""
        self._clock += 1

    def line_due(self):
        """The line whose interrupt is taken now, None without one."""
        return line_taken(self._controls, self._devices)

    def lower_line(self, line):
        """The line is raised no more."""
        self._devices.lowered(line)

    def has_device(self, place):
        """Whether a device place is there."""
        return self._devices.can(place)

    def read_device(self, place):
        """The word read at a device place that is there."""
        return self._devices.read(place)

    def write_device(self, place, word):
        """Write a word at a device place that is there."""
        self._devices.write(place, word)

    def set_controls(self, controls):
        """The controls are these from now on."""
        self._controls = list(controls)

    def halt(self):
        """It does no step any more."""
        self._halted = True

    def done(self, row, behind):
        """A step is done: its row, and the address of the next one."""
        self._rows.append(row)
        self._cycles_of_rows.append(self._clock)
        self._devices.counted()
        self._home = behind

    def trap(self, row, bad):
        """A step traps at its own address: all that is in flight goes."""
        self._controls = trapped(self._controls, row[2], row[0], bad)
        entry = entry_address(self._controls)
        self.restart(0, entry)
        self.done(row, entry)

    def restart(self, number, address):
        """All from this number on is dropped, and it is fetched from the address on."""
        self.flights.dropped(number)
        self.front.fetcher.redirected(address)

    def _told_of(self, number):
        entry = self.flights.entry(number)
        address, word = entry.row[:2]
        is_done = self.flights.orders.is_done(number)
        return (number, address, word, is_done, entry.outcome[0][2] if is_done else NO_CAUSE)


def is_raise(value):
    """Whether any value is a tuple of a cycle and a line."""
    return isinstance(value, tuple) and len(value) == 2 and is_between(value[0], 0, _LAST_CYCLE) and is_line(value[1])


def are_raises(value):
    """Whether any value may be passed as a core's raises."""
    return is_list(value) and len(value) <= MOST_RAISES and all([is_raise(one) for one in value])


def need_core(value):
    """Refuse what is no Core."""
    if not isinstance(value, Core):
        raise InvalidCore(value)
