"""COMMANDS: strings by which a debugger is worked, and its answers."""

from orderlycore.basics import is_list
from orderlycore.cycles import need_steps
from orderlycore.debugger import is_point_label, need_debugger
from orderlycore.errors import CommandFailed, CoreError, InvalidCommand, InvalidCommands, InvalidStretch
from orderlycore.errors import LimitError, MissingError
from orderlycore.lexing import count_in
from orderlycore.memory import MEMORY_PLACES
from orderlycore.traces import trace

_NOTHING = "-"
_MOST_WORDS = 64
_MOST_COMMANDS = 60


def _cycle(debugger):
    return _rows_told(debugger.cycle())


def _step(debugger):
    return _rows_told(debugger.step())


def _run(debugger, cycles):
    done, label = debugger.run(cycles)
    return _words_told([done, _NOTHING if label is None else label])


def _run_to(debugger, many):
    return str(debugger.run_to(many))


def _set_at(debugger, label, count):
    return _set_point(debugger, label, ("at", count))


def _set_register(debugger, label, count):
    return _set_point(debugger, label, ("register", count))


def _set_place(debugger, label, count):
    return _set_point(debugger, label, ("place", count))


def _set_cause(debugger, label, count):
    return _set_point(debugger, label, ("cause", count))


def _drop(debugger, label):
    debugger.drop_point(label)
    return _NOTHING


def _mark(debugger, label):
    debugger.mark(label)
    return _NOTHING


def _back(debugger, label):
    debugger.back(label)
    return _NOTHING


def _points(debugger):
    return _list_told([f"{label} {word} {count}" for label, (word, count) in debugger.points()])


def _marks(debugger):
    return _words_told(debugger.marks())


def _where(debugger):
    word = "halted" if debugger.halted else "going"
    return _words_told([debugger.clock, debugger.steps, debugger.home, word])


def _agrees(debugger):
    return "yes" if debugger.agrees else "no"


def _registers(debugger):
    return _words_told(debugger.core().registers())


def _controls(debugger):
    return _words_told(debugger.core().controls())


def _memory(debugger, place, many):
    if not (1 <= many <= _MOST_WORDS and place + many <= MEMORY_PLACES):
        raise InvalidStretch((place, many))
    memory = debugger.core().memory()
    return _words_told([memory.word(place + at) for at in range(many)])


def _flight(debugger):
    entries = debugger.core().in_flight()
    return _list_told([_words_told([*row[:2], "done" if row[3] else "waits"]) for row in entries])


def _outputs(debugger):
    return _words_told(debugger.core().devices().outputs())


def _last(debugger, many):
    need_steps(many)
    rows = debugger.rows()
    return _rows_told(rows[max(len(rows) - many, 0):])


# Of each word what stands behind it, and what answers it.
_FORMS = {
    "cycle": (),
    "step": (),
    "run": ("count",),
    "to": ("count",),
    "at": ("label", "count"),
    "register": ("label", "count"),
    "place": ("label", "count"),
    "cause": ("label", "count"),
    "drop": ("label",),
    "mark": ("label",),
    "back": ("label",),
    "points": (),
    "marks": (),
    "where": (),
    "agrees": (),
    "registers": (),
    "controls": (),
    "memory": ("count", "count"),
    "flight": (),
    "outputs": (),
    "last": ("count",),
}
_ANSWERS = {
    "cycle": _cycle,
    "step": _step,
    "run": _run,
    "to": _run_to,
    "at": _set_at,
    "register": _set_register,
    "place": _set_place,
    "cause": _set_cause,
    "drop": _drop,
    "mark": _mark,
    "back": _back,
    "points": _points,
    "marks": _marks,
    "where": _where,
    "agrees": _agrees,
    "registers": _registers,
    "controls": _controls,
    "memory": _memory,
    "flight": _flight,
    "outputs": _outputs,
    "last": _last,
}


def is_command(value):
    """Whether any value is a command."""
    return _parts_in(value) is not None


def answer(debugger, command):
    """The debugger does a command: the answer."""
    need_debugger(debugger)
    parts = _parts_in(command)
    if parts is None:
        raise InvalidCommand(command)
    word, *told = parts
    action = _ANSWERS[word]
    return action(debugger, *told)


def tried(debugger, commands):
    """The list of the answers that a copy of the debugger gives to commands, one behind the other."""
    need_debugger(debugger)
    if not (is_list(commands) and len(commands) <= _MOST_COMMANDS and all([is_command(one) for one in commands])):
        raise InvalidCommands(commands)
    copied = debugger.copy()
    return [_answer_at(copied, position, command) for position, command in enumerate(commands)]


def _answer_at(debugger, position, command):
    """The answer to the command at a position."""
    try:
        return answer(debugger, command)
    except (CoreError, MissingError, LimitError) as error:
        raise CommandFailed(position) from error


def _parts_in(value):
    """The list of a command's word, its labels and counts; None if it is no command."""
    if not isinstance(value, str):
        return None
    word, *words = value.split(" ")
    if word not in _FORMS or len(words) != len(_FORMS[word]):
        return None
    parts = [_part_in(one, kind) for one, kind in zip(words, _FORMS[word])]
    return None if None in parts else [word] + parts


def _part_in(word, kind):
    """The label or the count that a word is, None if it is none."""
    if kind == "count":
        return count_in(word)
    return word if is_point_label(word) else None


def _set_point(debugger, label, point):
    debugger.set_point(label, point)
    return _NOTHING


def _rows_told(rows):
    return _list_told(trace(rows))


def _list_told(parts):
    return ", ".join(parts) if parts else _NOTHING


def _words_told(parts):
    return " ".join([str(part) for part in parts]) if parts else _NOTHING
