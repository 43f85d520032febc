"""The HIERARCHY: two first caches and a second one, and the memory below them."""

from orderlycore.caches import Cache
from orderlycore.errors import InvalidHierarchy
from orderlycore.memory import need_memory, need_memory_place, put_words
from orderlycore.settings import need_settings
from orderlycore.whims import need_whims
from orderlycore.words import need_word

# With the setting twist one of so many whims throws a line out of the first cache, another one out of the second.
_TWISTS = 4
_FIRST_TWIST = 3
_SECOND_TWIST = 2


class Hierarchy:
    """Caches over the very memory, by the very whims that it is given."""

    def __init__(self, settings, memory, whims):
        need_settings(settings)
        need_memory(memory)
        need_whims(whims)
        self._settings = settings
        self._memory = memory
        self._whims = whims
        self._fetches = _first_cache(settings)
        self._reads = _first_cache(settings)
        self._second = Cache(settings.value("line"), settings.value("sets2"), settings.value("ways2"))

    def fetched(self, place):
        """The tuple (word, cycles) of a place that is fetched."""
        need_memory_place(place)
        return self._told_by(self._fetches, place)

    def read(self, place):
        """The tuple (word, cycles) of a place that is read."""
        need_memory_place(place)
        return self._told_by(self._reads, place)

    def written(self, place, word):
        """Write a word at a place."""
        need_memory_place(place)
        need_word(word)
        self._reach_second(place)
        self._second.put(place, word, True)
        self._reads.put(place, word, False)
        # Fetched words are not kept up to date, so their line must not stay.
        self._fetches.out(place)

    def seen(self, place):
        """The word seen at a place."""
        word = self._second.word(place)
        return self._memory.word(place) if word is None else word

    def memory_seen(self):
        """A memory of the words seen."""
        made = self._memory.copy()
        for lines in self._second.lines():
            for first, words, _ in lines:
                put_words(made, first, words)
        return made

    def below(self, place):
        """The memory's word at a place."""
        return self._memory.word(place)

    def cleaned(self):
        """The words of all written lines go to memory."""
        for line in self._second.cleaned():
            self._save(line)

    def lines(self):
        """The tuple of the lines of the first cache of fetched words, of that of read words, of the second one."""
        return (self._fetches.lines(), self._reads.lines(), self._second.lines())

    def copy(self):
        """A hierarchy that is as this one is now, and changes apart from it, memory and whims with it."""
        return self.copy_by(self._whims.copy())

    def copy_by(self, whims):
        """As copy, but it goes by the very whims that it is given."""
        made = Hierarchy(self._settings, self._memory.copy(), whims)
        made._fetches = self._fetches.copy()
        made._reads = self._reads.copy()
        made._second = self._second.copy()
        return made

    def _told_by(self, first, place):
        """The tuple (word, cycles) of a place that a first cache is asked for."""
        self._throw_out(first)
        cycles = 1
        if not first.used(place):
            cycles += self._settings.value("wait2") + self._reach_second(place)
            first.enter(place, self._second.words(place))
        whim = self._settings.value("whim")
        if whim > 0:
            cycles += self._whims.take(whim + 1)
        return (first.word(place), cycles)

    def _reach_second(self, place):
        """The line of a place is used in the second cache, and enters there first if need be: the cycles for that."""
        if self._second.used(place):
            return 0
        line = self._settings.value("line")
        begin = place // line * line
        words = [self._memory.word(begin + at) for at in range(line)]
        self._save(self._second.enter(place, words))
        return self._settings.value("waitm")

    def _throw_out(self, first):
        """With the setting twist whims may throw a line out, ahead of each fetching and reading."""
        if self._settings.value("twist") == 0:
            return
        twist = self._whims.take(_TWISTS)
        if twist == _FIRST_TWIST:
            first.out_at(self._whims.take(self._settings.value("sets1") * self._settings.value("ways1")))
        elif twist == _SECOND_TWIST:
            many = self._settings.value("sets2") * self._settings.value("ways2")
            self._save(self._second.out_at(self._whims.take(many)))

    def _save(self, line):
        """The words of a line that went out, or was cleaned, go to memory if it was written."""
        if line is None:
            return
        first, words, is_written = line
        if is_written:
            put_words(self._memory, first, words)


def need_hierarchy(value):
    """Refuse what is no Hierarchy."""
    if not isinstance(value, Hierarchy):
        raise InvalidHierarchy(value)


def _first_cache(settings):
    return Cache(settings.value("line"), settings.value("sets1"), settings.value("ways1"))
