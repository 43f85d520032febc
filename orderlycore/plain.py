"""The plain machine: one step after another."""

from orderlycore.basics import is_count, is_list, need_many
from orderlycore.causes import BAD_INSTRUCTION, DIVISION_BY_NOUGHT, FIRST_INTERRUPT, NO_CAUSE, SUPERVISOR_ONLY
from orderlycore.causes import SYSTEM_CALL
from orderlycore.controls import is_supervisor
from orderlycore.devices import is_line
from orderlycore.effects import divides_by_nought, near_address, next_address, result_of, went_to
from orderlycore.errors import Halted, InvalidRaised
from orderlycore.instructions import decoded, sort_of, writes_of
from orderlycore.states import need_state

_MOST_STEPS = 100000
_MOST_RAISED = 60
_SUPERVISORS = ("rdc", "wrc", "ret", "halt")


def step(state):
    """The state does a step: its row."""
    need_state(state)
    if state.halted:
        raise Halted()
    row = _row_of_step(state)
    state.count_step()
    return row


def steps(state, many, raised):
    """The list of the rows of the next steps, so many or until it is halted, with lines raised from outside."""
    need_state(state)
    need_many(many, 0, _MOST_STEPS)
    if not _are_raised(raised):
        raise InvalidRaised(raised)
    return steps_on(state, many, raised)


def steps_on(state, many, raised):
    """As steps, of any number of steps."""
    rows = []
    while len(rows) < many and not state.halted:
        raise_ahead(state, raised)
        rows.append(step(state))
    return rows


def raise_ahead(state, raised):
    """The lines are raised that are told for the state's next step."""
    for number, line in raised:
        if number == state.steps:
            state.raise_line(line)


def do_alone(state, word, instruction):
    """Do a lone instruction at the state's address, if it may be done: the row of the step."""
    name = instruction[0]
    if name in _SUPERVISORS and not is_supervisor(state.controls()):
        return _trap(state, word, SUPERVISOR_ONLY, state.address, 0)
    if name == "sys":
        return _trap(state, word, SYSTEM_CALL, next_address(state.address), 0)
    if name == "rdc":
        return _go_on(state, word, instruction[1], state.controls()[instruction[2]])
    row = _go_on(state, word, None, None)
    if name == "wrc":
        state.set_control(instruction[2], state.registers()[instruction[1]])
    elif name == "ret":
        state.give_back()
    else:
        state.halt()
    return row


def _are_raised(value):
    if not (is_list(value) and len(value) <= _MOST_RAISED):
        return False
    return all([_is_raise(one) for one in value])


def _is_raise(value):
    return isinstance(value, tuple) and len(value) == 2 and is_count(value[0]) and is_line(value[1])


def _row_of_step(state):
    address = state.address
    line = state.line_due()
    if line is not None:
        state.lower_line(line)
        return _trap(state, None, FIRST_INTERRUPT + line, address, 0)
    place, cause = state.looked_up(address, "fetch")
    if cause != NO_CAUSE:
        return _trap(state, None, cause, address, address)
    word = state.read(place)
    instruction = decoded(word)
    if instruction is None:
        return _trap(state, word, BAD_INSTRUCTION, address, 0)
    return _do(state, word, instruction)


def _do(state, word, instruction):
    """Do an instruction: the row of the step."""
    sort = sort_of(instruction)
    if sort == "lone":
        return do_alone(state, word, instruction)
    if sort == "load":
        return _load(state, word, instruction)
    if sort == "store":
        return _store(state, word, instruction)
    if sort in ("branch", "jump"):
        return _move(state, word, instruction)
    return _reckon(state, word, instruction)


def _reckon(state, word, instruction):
    registers = state.registers()
    which = writes_of(instruction)
    if which is None:
        return _go_on(state, word, None, None)
    if divides_by_nought(instruction, registers):
        return _trap(state, word, DIVISION_BY_NOUGHT, state.address, 0)
    return _go_on(state, word, which, result_of(instruction, registers))


def _load(state, word, instruction):
    address = near_address(instruction, state.registers())
    place, cause = state.looked_up(address, "load")
    if cause != NO_CAUSE:
        return _trap(state, word, cause, state.address, address)
    return _go_on(state, word, instruction[1], state.read(place))


def _store(state, word, instruction):
    registers = state.registers()
    address = near_address(instruction, registers)
    place, cause = state.looked_up(address, "store")
    if cause != NO_CAUSE:
        return _trap(state, word, cause, state.address, address)
    stored = registers[instruction[1]]
    row = (state.address, word, NO_CAUSE, None, None, place, stored)
    state.write(place, stored)
    state.go_to(next_address(state.address))
    return row


def _move(state, word, instruction):
    behind = went_to(state.address, instruction, state.registers())
    which = writes_of(instruction)
    value = None if which is None else next_address(state.address)
    row = _go_on(state, word, which, value)
    state.go_to(behind)
    return row


def _go_on(state, word, which, value):
    """Go to the next address, and write a register unless it is None: the row of the step."""
    row = (state.address, word, NO_CAUSE, which, value, None, None)
    if which is not None:
        state.set_register(which, value)
    state.go_to(next_address(state.address))
    return row


def _trap(state, word, cause, home, bad):
    """Trap: the row of the step."""
    row = (state.address, word, cause, None, None, None, None)
    state.trap(cause, home, bad)
    return row
