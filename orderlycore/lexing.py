"""The lines of a text: words, labels, names, numbers and values."""

from orderlycore.errors import BadText

_LETTERS = "abcdefghijklmnopqrstuvwxyz"
_NAME_SIGNS = "abcdefghijklmnopqrstuvwxyz0123456789_"
_DIGITS = "0123456789"
_SMALL_HEX = "0123456789abcdef"
_REGISTERS = ("r0", "r1", "r2", "r3", "r4", "r5", "r6", "r7")
_MOST_NAME_SIGNS = 12
_MOST_DIGITS = 6
_MOST_HEX_DIGITS = 4


def need_text(value):
    """Refuse what is no string."""
    if not isinstance(value, str):
        raise BadText(0)


def is_label(value):
    """Whether any value is a NAME."""
    if not isinstance(value, str) or value in _REGISTERS:
        return False
    return _is_made_of(value, _NAME_SIGNS, _MOST_NAME_SIGNS) and value[0] in _LETTERS


def register_in(text):
    """The register that a string tells, None if it tells none."""
    if text in _REGISTERS:
        return _REGISTERS.index(text)
    return None


def number_in(text):
    """The number that a string writes as a NUMBER, None if it writes none."""
    need_text(text)
    if text.startswith("0x"):
        return _hex_in(text[2:])
    if text.startswith("-"):
        number = _decimal_in(text[1:])
        return None if number is None else -number
    return _decimal_in(text)


def count_in(text, most=_MOST_DIGITS):
    """The COUNT that a string writes in so many decimal digits at most, without needless zeros; else None."""
    if not _is_made_of(text, _DIGITS, most) or (text[0] == "0" and text != "0"):
        return None
    return int(text)


def value_in(text):
    """The tuple of the NAME (None without one) and the number of a VALUE, None if it is none."""
    number = number_in(text)
    if number is not None:
        return (None, number)
    if is_label(text):
        return (text, 0)
    sign = "+" if "+" in text else "-"
    name, _, digits = text.partition(sign)
    number = _decimal_in(digits)
    if number is None or not is_label(name):
        return None
    return (name, number if sign == "+" else -number)


def parted(text):
    """The tuple of a line's label (None without one) and the list of its statement's words, None if it has none."""
    need_text(text)
    words = _words_in(text)
    if words is None:
        return None
    if not words or not words[0].endswith(":"):
        return (None, words)
    label = words[0][:-1]
    if not is_label(label):
        return None
    return (label, words[1:])


def _is_made_of(text, signs, most):
    """Whether a string is one to so many of the signs."""
    return 1 <= len(text) <= most and all([sign in signs for sign in text])


def _decimal_in(digits):
    if not _is_made_of(digits, _DIGITS, _MOST_DIGITS):
        return None
    return int(digits)


def _hex_in(digits):
    if not _is_made_of(digits, _SMALL_HEX, _MOST_HEX_DIGITS):
        return None
    return int(digits, 16)


def _words_in(text):
    """The words ahead of a line's comment, None if a double quote is not closed or stands within a word."""
    words = []
    at = 0
    while at < len(text) and text[at] != ";":
        if text[at] == " ":
            at += 1
        else:
            end = _word_end(text, at)
            if end is None:
                return None
            words.append(text[at:end])
            at = end
    return words


def _word_end(text, begin):
    """The position behind the word that begins there, None if its double quotes are wrong."""
    end = begin + 1
    if text[begin] == '"':
        end = text.find('"', begin + 1) + 1
        if end == 0:
            return None
    else:
        while end < len(text) and text[end] not in ' ;"':
            end += 1
    # Behind a word comes a blank, a comment or nothing; a double quote there stands within it.
    if end < len(text) and text[end] not in " ;":
        return None
    return end
