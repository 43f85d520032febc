"""Instructions: how they stand in words, what they read and write, and what their worths are."""

from orderlycore.basics import is_between
from orderlycore.errors import InvalidInstruction, InvalidOperation
from orderlycore.words import both, either, minus, need_word, need_words, over, plus
from orderlycore.words import shifted_down, shifted_up, times, unlike

# Of each operation its number and its form.
_OPERATIONS = {
    "add": (1, "three"),
    "sub": (2, "three"),
    "mul": (3, "three"),
    "div": (4, "three"),
    "and": (5, "three"),
    "or": (6, "three"),
    "xor": (7, "three"),
    "shl": (8, "three"),
    "shr": (9, "three"),
    "low": (10, "three"),
    "eq": (11, "three"),
    "addi": (12, "near"),
    "ld": (13, "near"),
    "st": (14, "near"),
    "jr": (15, "near"),
    "lim": (16, "byte"),
    "lhi": (17, "byte"),
    "bz": (18, "far"),
    "bnz": (19, "far"),
    "jal": (20, "far"),
    "sys": (21, "call"),
    "rdc": (22, "control"),
    "wrc": (23, "control"),
    "ret": (24, "bare"),
    "halt": (25, "bare"),
    "nop": (26, "bare"),
}
_NUMBER_BIT = 11
# Of each form the parts behind the name, registers ahead of numbers.
_FORMS = {
    "three": ("a", "b", "c"),
    "near": ("a", "b", "near"),
    "byte": ("a", "byte"),
    "far": ("a", "far"),
    "call": ("byte",),
    "control": ("a", "control"),
    "bare": (),
}
# Of each part its lowest bit, how many bits it has, its least and its greatest number.
_PARTS = {
    "a": (8, 3, 0, 7),
    "b": (5, 3, 0, 7),
    "c": (0, 5, 0, 7),
    "near": (0, 5, -16, 15),
    "byte": (0, 8, 0, 255),
    "far": (0, 8, -128, 127),
    "control": (0, 8, 0, 7),
}
_REGISTER_PARTS = ("a", "b", "c")
# Where the registers that are read stand in an instruction, unless its form is three.
_READS = {
    "addi": (2,),
    "ld": (2,),
    "jr": (2,),
    "st": (1, 2),
    "lhi": (1,),
    "bz": (1,),
    "bnz": (1,),
    "wrc": (1,),
}
_THREE_READS = (2, 3)
_WRITERS = ("addi", "ld", "jr", "lim", "lhi", "jal", "rdc")
_SORTS = {
    "mul": "times",
    "div": "over",
    "ld": "load",
    "st": "store",
    "bz": "branch",
    "bnz": "branch",
    "jr": "jump",
    "jal": "jump",
    "sys": "lone",
    "rdc": "lone",
    "wrc": "lone",
    "ret": "lone",
    "halt": "lone",
}
_WORTHS = ("add", "addi", "sub", "mul", "div", "and", "or", "xor", "shl", "shr", "low", "eq", "lim", "lhi")


def operations():
    """The list of the names of all operations, in the sequence of their numbers."""
    return list(_OPERATIONS)


def is_operation(value):
    """Whether any value is the name of an operation."""
    return isinstance(value, str) and value in _OPERATIONS


def parts_of(name):
    """For each part behind the name of an operation whether it is a register (else it is a number)."""
    return [part in _REGISTER_PARTS for part in _FORMS[_form_of(name)]]


def is_instruction(value):
    """Whether any value is an instruction."""
    if not (isinstance(value, tuple) and len(value) > 0 and is_operation(value[0])):
        return False
    parts = _FORMS[_form_of(value[0])]
    if len(value) != len(parts) + 1:
        return False
    return all([_fits(number, part) for number, part in zip(value[1:], parts)])


def need_instruction(value):
    """Refuse what is no instruction."""
    if not is_instruction(value):
        raise InvalidInstruction(value)


def encoded(instruction):
    """The word of an instruction."""
    need_instruction(instruction)
    return _word_of(instruction)


def decoded(word):
    """The instruction of which it is the word, None if the word is bad."""
    need_word(word)
    number = word >> _NUMBER_BIT
    if not 1 <= number <= len(_OPERATIONS):
        return None
    name = operations()[number - 1]
    numbers = [_number_at(word, part) for part in _FORMS[_form_of(name)]]
    found = (name, *numbers)
    # A bit that is not used makes another word than the instruction has.
    if is_instruction(found) and _word_of(found) == word:
        return found
    return None


def reads_of(instruction):
    """The rising list of the registers that an instruction reads, each once."""
    need_instruction(instruction)
    name = instruction[0]
    if _form_of(name) == "three":
        return _registers_at(instruction, _THREE_READS)
    return _registers_at(instruction, _READS.get(name, ()))


def writes_of(instruction):
    """The register that an instruction writes, None if it writes none."""
    need_instruction(instruction)
    name = instruction[0]
    if _form_of(name) == "three" or name in _WRITERS:
        return instruction[1]
    return None


def sort_of(instruction):
    """The sort of an instruction."""
    need_instruction(instruction)
    return _SORTS.get(instruction[0], "sum")


def worth_of(name, one, other):
    """The worth of two words by a name."""
    if name not in _WORTHS:
        raise InvalidOperation(name)
    need_words(one, other)
    if name in ("and", "or", "xor", "low", "eq"):
        return _compared(name, one, other)
    return _reckoned(name, one, other)


def _word_of(instruction):
    number, form = _OPERATIONS[instruction[0]]
    stands = [_stands(one, part) for one, part in zip(instruction[1:], _FORMS[form])]
    return (number << _NUMBER_BIT) + sum(stands)


def _form_of(name):
    return _OPERATIONS[name][1]


def _fits(number, part):
    least, greatest = _PARTS[part][2:]
    return is_between(number, least, greatest)


def _stands(number, part):
    low, many = _PARTS[part][:2]
    return (number % (1 << many)) << low


def _number_at(word, part):
    low, many, least, greatest = _PARTS[part]
    number = (word >> low) % (1 << many)
    if least < 0 and number > greatest:
        return number - (1 << many)
    return number


def _registers_at(instruction, positions):
    return sorted(set([instruction[at] for at in positions]))


def _compared(name, one, other):
    if name == "and":
        return both(one, other)
    if name == "or":
        return either(one, other)
    if name == "xor":
        return unlike(one, other)
    if name == "low":
        return 1 if one < other else 0
    return 1 if one == other else 0


def _reckoned(name, one, other):
    if name in ("add", "addi"):
        return plus(one, other)
    if name == "sub":
        return minus(one, other)
    if name == "mul":
        return times(one, other)
    if name == "div":
        return over(one, other)
    if name == "shl":
        return shifted_up(one, other)
    if name == "shr":
        return shifted_down(one, other)
    if name == "lim":
        return other
    return plus(times(other, 256), one % 256)
