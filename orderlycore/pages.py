"""PAGES: entries, tables, and the places to which they lead addresses."""

from orderlycore.basics import is_between, is_list
from orderlycore.causes import NO_CAUSE, NO_SUCH_PLACE
from orderlycore.errors import FewTables, InvalidFlags, InvalidFrame, InvalidPage, InvalidRows, InvalidSide
from orderlycore.errors import InvalidTables, InvalidWay
from orderlycore.memory import is_memory_place, need_memory
from orderlycore.words import bits, is_place, need_address, need_place, need_word

# So many addresses are in a page, places in a frame, entries in a table.
PAGE_WORDS = 16
_PAGES = 256
_FRAMES = 64
_MEMORY_FRAMES = 60
_FLAGS = 4
_USERS_FLAG = 1
_WRITABLE_FLAG = 2
# Where the parts of an entry begin, and how many bits they have.
_THERE_BIT = 15
_FLAGS_BIT = 13
_FLAGS_BITS = 2
_FRAME_BITS = 6
# Of each way its own cause.
_WAY_CAUSES = {"fetch": 4, "load": 5, "store": 6}
_MOST_ROWS = 60


def is_page(value):
    """Whether any value is a PAGE."""
    return is_between(value, 0, _PAGES - 1)


def need_page(value):
    """Refuse what is no PAGE."""
    if not is_page(value):
        raise InvalidPage(value)


def need_frame(value):
    """Refuse what is no FRAME."""
    if not _is_frame(value):
        raise InvalidFrame(value)


def need_way(value):
    """Refuse what is no way for which addresses are looked up."""
    if not (isinstance(value, str) and value in _WAY_CAUSES):
        raise InvalidWay(value)


def need_side(value):
    """Refuse what does not tell whether it is for the user."""
    if not isinstance(value, bool):
        raise InvalidSide(value)


def page_entry(frame, flags):
    """The entry that is there, with a frame and flags."""
    need_frame(frame)
    if not _are_flags(flags):
        raise InvalidFlags(flags)
    return (1 << _THERE_BIT) + (flags << _FLAGS_BIT) + frame


def entry_parts(word):
    """The tuple of whether an entry is there, its flags, and its frame."""
    return (bits(word, _THERE_BIT, 1) == 1, bits(word, _FLAGS_BIT, _FLAGS_BITS), bits(word, 0, _FRAME_BITS))


def by_entry(word, address, way, is_user):
    """The tuple (place or None, cause) that a word tells as a second entry."""
    need_word(word)
    need_address(address)
    need_way(way)
    need_side(is_user)
    is_there, flags, frame = entry_parts(word)
    if not (is_there and _lets(flags, way, is_user)):
        return (None, _WAY_CAUSES[way])
    place = _entry_place(frame, address)
    if way == "fetch" and not is_memory_place(place):
        return (None, NO_SUCH_PLACE)
    return (place, NO_CAUSE)


def translated(memory, root, address, way, is_user):
    """The tuple (place or None, cause, leans) of an address by the tables of a root."""
    need_memory(memory)
    need_frame(root)
    need_address(address)
    need_way(way)
    need_side(is_user)
    place, cause, leans, _ = walked(memory, root, address, way, is_user)
    return (place, cause, leans)


def walked(words, root, address, way, is_user):
    """As translated tells, and behind it the second entry's word, None if it was not read.

    The entries are read by words.word(place), so that a walk by caches goes the same way.
    """
    page = address // PAGE_WORDS
    first = _entry_place(root, page // PAGE_WORDS)
    if not is_memory_place(first):
        return (None, NO_SUCH_PLACE, [], None)
    is_there, _, table = entry_parts(words.word(first))
    if not is_there:
        return (None, _WAY_CAUSES[way], [first], None)
    second = _entry_place(table, page)
    if not is_memory_place(second):
        return (None, NO_SUCH_PLACE, [first], None)
    word = words.word(second)
    place, cause = by_entry(word, address, way, is_user)
    return (place, cause, [first, second], word)


def page_walk(memory, root, page):
    """How a page's first address is walked for a load of the supervisor, whom no rights stop."""
    return walked(memory, root, page * PAGE_WORDS, "load", False)


def straight(address, way):
    """The tuple (place or None, cause, leans) of an address without pages."""
    need_address(address)
    need_way(way)
    if not is_place(address) or (way == "fetch" and not is_memory_place(address)):
        return (None, NO_SUCH_PLACE, [])
    return (address, NO_CAUSE, [])


def laid(memory, root, tables, rows):
    """Lay tables for rows in the memory."""
    need_memory(memory)
    if not _is_memory_frame(root):
        raise InvalidFrame(root)
    if not _are_tables(tables, root):
        raise InvalidTables(tables)
    if not _are_rows(rows):
        raise InvalidRows(rows)
    numbers = sorted(set([row[0] // PAGE_WORDS for row in rows]))
    if len(numbers) > len(tables):
        raise FewTables()
    used = dict(zip(numbers, tables))
    for frame in [root] + list(used.values()):
        _clear_table(memory, frame)
    for number, frame in used.items():
        memory.put(_entry_place(root, number), page_entry(frame, 0))
    for page, frame, flags in rows:
        memory.put(_entry_place(used[page // PAGE_WORDS], page), page_entry(frame, flags))


def mappings(memory, root):
    """The sorted list of the tuples (page, frame, flags) of all mapped pages."""
    need_memory(memory)
    need_frame(root)
    told = []
    for page in range(_PAGES):
        word = page_walk(memory, root, page)[3]
        if word is not None:
            is_there, flags, frame = entry_parts(word)
            if is_there:
                told.append((page, frame, flags))
    return told


def pages_of(memory, root, frame):
    """The rising list of the pages that are mapped with a frame."""
    need_memory(memory)
    need_frame(root)
    need_frame(frame)
    return [row[0] for row in mappings(memory, root) if row[1] == frame]


def leaning(memory, root, place):
    """The rising list of the pages of which translating leans on a place."""
    need_memory(memory)
    need_frame(root)
    need_place(place)
    return [page for page in range(_PAGES) if place in page_walk(memory, root, page)[2]]


def _is_frame(value):
    return is_between(value, 0, _FRAMES - 1)


def _is_memory_frame(value):
    return is_between(value, 0, _MEMORY_FRAMES - 1)


def _are_flags(value):
    return is_between(value, 0, _FLAGS - 1)


def _are_tables(value, root):
    if not (is_list(value) and all([_is_memory_frame(frame) for frame in value])):
        return False
    return root not in value and len(set(value)) == len(value)


def _is_row(value):
    if not (isinstance(value, tuple) and len(value) == 3):
        return False
    page, frame, flags = value
    return is_page(page) and _is_frame(frame) and _are_flags(flags)


def _are_rows(value):
    if not (is_list(value) and len(value) <= _MOST_ROWS and all([_is_row(row) for row in value])):
        return False
    return len(set([row[0] for row in value])) == len(value)


def _lets(flags, way, is_user):
    """Whether an entry's flags let something by."""
    if is_user and flags & _USERS_FLAG == 0:
        return False
    return way != "store" or flags & _WRITABLE_FLAG != 0


def _entry_place(frame, number):
    """The place in a frame to which the last digit of a number leads, sixteen to a frame."""
    return frame * PAGE_WORDS + number % PAGE_WORDS


def _clear_table(memory, frame):
    for number in range(PAGE_WORDS):
        memory.put(_entry_place(frame, number), 0)
