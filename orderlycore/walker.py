"""The WALKER: addresses are asked for by the buffer, and by the tables where it does not know them."""

from orderlycore.buffers import need_buffer
from orderlycore.controls import is_paged, is_supervisor, need_controls, root_frame
from orderlycore.hierarchy import need_hierarchy
from orderlycore.pages import PAGE_WORDS, by_entry, entry_parts, need_way, straight, walked
from orderlycore.settings import need_settings
from orderlycore.whims import need_whims
from orderlycore.words import need_address

# With the setting twist one of so many whims throws an entry out of the buffer.
_TWISTS = 4
_TWIST = 3


class Reader:
    """The words that a hierarchy reads, and how many cycles that takes together."""

    def __init__(self, hierarchy):
        self._hierarchy = hierarchy
        self._cycles = 0

    @property
    def cycles(self):
        """The cycles of all words read so far."""
        return self._cycles

    def word(self, place):
        """The word at a place."""
        word, cycles = self._hierarchy.read(place)
        self._cycles += cycles
        return word


def asked(buffer, hierarchy, whims, settings, controls, address, way):
    """The tuple (place or None, cause, leans, cycles) of an address."""
    need_buffer(buffer)
    need_hierarchy(hierarchy)
    need_whims(whims)
    need_settings(settings)
    need_controls(controls)
    need_address(address)
    need_way(way)
    if settings.value("twist") == 1 and whims.take(_TWISTS) == _TWIST:
        buffer.out(whims.take(buffer.most))
    if not is_paged(controls):
        place, cause, leans = straight(address, way)
        return (place, cause, leans, 0)
    kept = buffer.found(address // PAGE_WORDS)
    if kept is None:
        return _by_tables(buffer, hierarchy, controls, address, way)
    _, first, second, word = kept
    place, cause = by_entry(word, address, way, not is_supervisor(controls))
    return (place, cause, [first, second], 0)


def _by_tables(buffer, hierarchy, controls, address, way):
    reader = Reader(hierarchy)
    is_user = not is_supervisor(controls)
    place, cause, leans, word = walked(reader, root_frame(controls), address, way, is_user)
    if word is not None and entry_parts(word)[0]:
        buffer.entered(address // PAGE_WORDS, leans[0], leans[1], word)
    return (place, cause, leans, reader.cycles)
