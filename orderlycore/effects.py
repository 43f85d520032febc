"""What instructions come to, as far as the words of registers alone tell it.

Registers are a list of eight words, or a dict that has the words of those that the instruction reads.
"""

from orderlycore.instructions import worth_of
from orderlycore.words import ADDRESSES, WORDS


def address_at(start, many):
    """The address so many behind a word or an address."""
    return (start + many) % ADDRESSES


def next_address(address):
    """The address one on."""
    return address_at(address, 1)


def target_of(address, instruction):
    """The target of `bz`, `bnz` or `jal` at an address."""
    return address_at(address, instruction[2])


def near_address(instruction, registers):
    """The address b + n of `ld`, `st` or `jr`."""
    return address_at(registers[instruction[2]], instruction[3])


def went_to(address, instruction, registers):
    """The address at which a branch or a jump at an address goes on."""
    name = instruction[0]
    if name == "jr":
        return near_address(instruction, registers)
    if name == "jal" or _is_taken(name, registers[instruction[1]]):
        return target_of(address, instruction)
    return next_address(address)


def divides_by_nought(instruction, registers):
    """Whether it is a division that has no worth."""
    return instruction[0] == "div" and registers[instruction[3]] == 0


def result_of(instruction, registers):
    """The word that an instruction writes whose sort is sum, times or over (but `nop`)."""
    one, other = _operands_of(instruction, registers)
    return worth_of(instruction[0], one, other)


def _is_taken(name, word):
    """Whether a branch goes to its target by the word of its register."""
    if name == "bz":
        return word == 0
    return word != 0


def _operands_of(instruction, registers):
    name = instruction[0]
    if name == "lim":
        return (0, instruction[2])
    if name == "lhi":
        return (registers[instruction[1]], instruction[2])
    if name == "addi":
        return (registers[instruction[2]], instruction[3] % WORDS)
    return (registers[instruction[2]], registers[instruction[3]])
