"""IMAGES: words of the memory at their places, and their texts."""

from orderlycore.basics import is_list
from orderlycore.errors import BadText, InvalidImage, InvalidParts
from orderlycore.lexing import count_in, need_text
from orderlycore.memory import is_part, memory_of, need_memory_place

_HEAD = "image"
_PART = "part"


class Image:
    """Words of the memory at their places."""

    def __init__(self, parts):
        if not _are_parts(parts):
            raise InvalidParts(parts)
        self._words = {}
        for first, words in parts:
            for place, word in enumerate(words, start=first):
                self._words[place] = word

    def parts(self):
        """The list of the told parts: as few as can be, with rising places."""
        told = []
        for place in sorted(self._words):
            if not told or _end_of(told[-1]) != place:
                told.append((place, []))
            told[-1][1].append(self._words[place])
        return told

    def word(self, place):
        """The word at a place, None where none lies."""
        need_memory_place(place)
        return self._words.get(place)

    @property
    def size(self):
        """How many words it tells."""
        return len(self._words)

    def __eq__(self, other):
        return isinstance(other, Image) and self._words == other._words


def need_image(value):
    """Refuse what is no Image."""
    if not isinstance(value, Image):
        raise InvalidImage(value)


def image_text(image):
    """The image text of an image."""
    need_image(image)
    lines = [_HEAD] + [_part_line(part) for part in image.parts()]
    return "".join([line + "\n" for line in lines])


def image_of(text):
    """The image that has this image text."""
    need_text(text)
    lines = text.split("\n")
    if lines[0] != _HEAD:
        raise BadText(1)
    parts = []
    for number, line in enumerate(lines[1:-1], start=2):
        part = _part_in(line)
        if part is None or (parts and part[0] <= _end_of(parts[-1])):
            raise BadText(number)
        parts.append(part)
    # What stands behind the last line feed is a line without one.
    if lines[-1] != "":
        raise BadText(len(lines))
    return Image(parts)


def loaded(image):
    """A memory with the words of an image, all others 0."""
    need_image(image)
    return memory_of(image.parts())


def _end_of(part):
    """The place behind a part."""
    return part[0] + len(part[1])


def _are_parts(value):
    if not (is_list(value) and all([is_part(part) and len(part[1]) > 0 for part in value])):
        return False
    ordered = sorted([(part[0], _end_of(part)) for part in value])
    return all([one[1] <= other[0] for one, other in zip(ordered, ordered[1:])])


def _part_line(part):
    return " ".join([_PART] + [str(number) for number in (part[0], *part[1])])


def _part_in(line):
    """The part that a line tells, None if it tells none."""
    head, *words = line.split(" ")
    numbers = [count_in(word) for word in words]
    if head != _PART or len(numbers) < 2:
        return None
    part = (numbers[0], numbers[1:])
    return part if is_part(part) else None
