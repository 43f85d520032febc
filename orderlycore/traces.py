"""Rows that are TRACED, each as a line that people read."""

from orderlycore.causes import FIRST_INTERRUPT, NO_CAUSE
from orderlycore.instructions import decoded
from orderlycore.listing import text_of
from orderlycore.meanings import need_row, need_row_list


def traced(row):
    """The row traced, a string."""
    need_row(row)
    address, word, cause, which, value, place, stored = row
    parts = [f"{address}: {_word_told(word, cause)}"]
    if which is not None:
        parts.append(f"r{which} = {value}")
    if place is not None:
        parts.append(f"{place} <- {stored}")
    if cause != NO_CAUSE and not _is_interrupt(word, cause):
        parts.append(f"trap {cause}")
    return " | ".join(parts)


def trace(rows):
    """The list of all rows traced."""
    need_row_list(rows)
    return [traced(row) for row in rows]


def _is_interrupt(word, cause):
    return word is None and cause >= FIRST_INTERRUPT


def _word_told(word, cause):
    if _is_interrupt(word, cause):
        return f"interrupt {cause - FIRST_INTERRUPT}"
    if word is None:
        return "no word"
    instruction = decoded(word)
    return f".word {word}" if instruction is None else text_of(instruction)
