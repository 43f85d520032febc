"""The TEXT of an instruction, and the instruction of a text."""

from orderlycore.errors import InvalidListing
from orderlycore.instructions import is_instruction, need_instruction, parts_of
from orderlycore.lexing import number_in, register_in


def text_of(instruction):
    """The text of an instruction."""
    need_instruction(instruction)
    name = instruction[0]
    words = [_word_of(part, is_which) for part, is_which in zip(instruction[1:], parts_of(name))]
    return " ".join([name] + words)


def instruction_of(text):
    """The instruction of which it is the text."""
    if not isinstance(text, str):
        raise InvalidListing(text)
    name, *words = text.split(" ")
    parts = [_part_in(word) for word in words]
    found = (name, *parts)
    # Numbers are read in all their ways, and registers anywhere: the text itself tells which one is meant.
    if not is_instruction(found) or text_of(found) != text:
        raise InvalidListing(text)
    return found


def _word_of(part, is_which):
    return f"r{part}" if is_which else str(part)


def _part_in(word):
    which = register_in(word)
    if which is None:
        return number_in(word)
    return which
