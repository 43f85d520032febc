"""STATES: all that the plain machine is, between two steps."""

from orderlycore.causes import NO_SUCH_PLACE
from orderlycore.controls import entry_address, fresh_controls, home_address, is_paged, is_supervisor, line_taken
from orderlycore.controls import returned, root_frame, trapped
from orderlycore.devices import Devices
from orderlycore.errors import InvalidState
from orderlycore.memory import is_memory_place, need_memory
from orderlycore.pages import straight, translated
from orderlycore.words import REGISTERS


class State:
    """Registers, an address, controls, a memory and devices; whether it is halted, and how many steps it has done."""

    def __init__(self, memory, inputs):
        need_memory(memory)
        self._registers = [0] * REGISTERS
        self._address = 0
        self._controls = fresh_controls()
        self._memory = memory.copy()
        self._devices = Devices(inputs)
        self._halted = False
        self._done = 0

    @property
    def address(self):
        """The address of its next step."""
        return self._address

    @property
    def halted(self):
        """Whether it is halted."""
        return self._halted

    @property
    def steps(self):
        """How many steps it has done."""
        return self._done

    def registers(self):
        """The list of the eight words of the registers."""
        return list(self._registers)

    def controls(self):
        """The list of the eight words of the controls."""
        return list(self._controls)

    def memory(self):
        """A copy of its memory."""
        return self._memory.copy()

    def devices(self):
        """A copy of its devices."""
        return self._devices.copy()

    def copy(self):
        """A state that is as this one is now, and changes apart from it."""
        return state_with(
            self._registers, self._controls, self._address, self._memory, self._devices, self._halted, self._done
        )

    def __eq__(self, other):
        return (
            isinstance(other, State)
            and self._registers == other._registers
            and self._address == other._address
            and self._controls == other._controls
            and self._halted == other._halted
            and self._done == other._done
            and self._memory == other._memory
            and self._devices == other._devices
        )

    def line_due(self):
        """The line whose interrupt is taken now, None without one."""
        return line_taken(self._controls, self._devices)

    def looked_up(self, address, way):
        """The tuple (place or None, cause) of an address, by the controls and tables as they are now."""
        place, cause, _ = led_to(self._memory, self._controls, address, way)
        if place is None or is_memory_place(place) or self._devices.can(place):
            return (place, cause)
        return (None, NO_SUCH_PLACE)

    def read(self, place):
        """The word read at a place of memory, or of a device that is there."""
        if is_memory_place(place):
            return self._memory.word(place)
        return self._devices.read(place)

    def write(self, place, word):
        """Write a word at a place of memory, or of a device that is there."""
        if is_memory_place(place):
            self._memory.put(place, word)
        else:
            self._devices.write(place, word)

    def set_register(self, which, word):
        """A register gets a word."""
        self._registers[which] = word

    def set_control(self, which, word):
        """A control gets a word."""
        self._controls[which] = word

    def go_to(self, address):
        """The next step is at the address."""
        self._address = address

    def raise_line(self, line):
        """The line is raised."""
        self._devices.raised(line)

    def lower_line(self, line):
        """The line is raised no more."""
        self._devices.lowered(line)

    def trap(self, cause, home, bad):
        """It traps, and goes to the entry."""
        self._controls = trapped(self._controls, cause, home, bad)
        self._address = entry_address(self._controls)

    def give_back(self):
        """It returns, and goes to home."""
        self._controls = returned(self._controls)
        self._address = home_address(self._controls)

    def halt(self):
        """It does no step any more."""
        self._halted = True

    def count_step(self):
        """One step more is done."""
        self._devices.counted()
        self._done += 1


def state_with(registers, controls, address, memory, devices, is_halted, done):
    """A state that has all this."""
    made = State(memory, [])
    made._registers = list(registers)
    made._controls = list(controls)
    made._address = address
    made._devices = devices.copy()
    made._halted = is_halted
    made._done = done
    return made


def led_to(memory, controls, address, way):
    """The tuple (place or None, cause, leans) of an address by controls, and by the tables in a memory."""
    if is_paged(controls):
        return translated(memory, root_frame(controls), address, way, not is_supervisor(controls))
    return straight(address, way)


def need_state(value):
    """Refuse what is no State."""
    if not isinstance(value, State):
        raise InvalidState(value)


def snapshot(state):
    """The tuple of registers, address, controls, whether it is halted, steps done, memory's rows, what devices tell."""
    need_state(state)
    return (
        state.registers(),
        state.address,
        state.controls(),
        state.halted,
        state.steps,
        state.memory().rows(),
        state.devices().told(),
    )
