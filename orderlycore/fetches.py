"""The FETCHER: rows are fetched ahead, where the predictor expects the machine to go on."""

from orderlycore.causes import BAD_INSTRUCTION, NO_CAUSE
from orderlycore.effects import next_address
from orderlycore.errors import NothingFetched
from orderlycore.instructions import decoded, sort_of
from orderlycore.settings import need_settings
from orderlycore.walker import asked
from orderlycore.whims import need_whims
from orderlycore.words import need_address, need_place


class Fetcher:
    """The address to be fetched next, the queue of fetched rows, and at most one row that is held."""

    def __init__(self, settings, whims):
        need_settings(settings)
        need_whims(whims)
        self._settings = settings
        self._whims = whims
        self._address = 0
        self._stopped = False
        # Tuples (address, word, cause, bad, expected, leans), the oldest one first.
        self._queue = []
        # None, or a tuple (address, word, cause, bad, leans, wait).
        self._held = None

    @property
    def address(self):
        """The address to be fetched next."""
        return self._address

    @property
    def stopped(self):
        """Whether nothing more is fetched till it is redirected."""
        return self._stopped

    def cycle(self, predictor, buffer, hierarchy, controls):
        """One cycle of fetching."""
        self._wait_less()
        for _ in range(self._settings.value("fetch")):
            if len(self._queue) == self._settings.value("queue"):
                return
            if self._held is None and not self._stopped:
                self._held = self._made(buffer, hierarchy, controls)
            if self._held is None or self._held[5] > 0:
                return
            self._deliver(predictor)

    def rows(self):
        """The list of the rows of the queue, the oldest one first."""
        return [_with_new_leans(row, 5) for row in self._queue]

    def held_row(self):
        """None, or the tuple (address, word, cause, bad, leans, wait) of the row that is held."""
        return None if self._held is None else _with_new_leans(self._held, 4)

    def pulled(self):
        """The first row of the queue, which is taken off."""
        if not self._queue:
            raise NothingFetched()
        return _with_new_leans(self._queue.pop(0), 5)

    def leans_on(self, place):
        """Whether a row of the queue, or the held one, leans on a place."""
        need_place(place)
        leans = [row[5] for row in self._queue]
        if self._held is not None:
            leans.append(self._held[4])
        return any([place in one for one in leans])

    def redirected(self, address):
        """All that was fetched goes, and it goes on at the address."""
        need_address(address)
        self._queue = []
        self._held = None
        self._stopped = False
        self._address = address

    def copy(self, whims):
        """A fetcher that is as this one is now, changes apart from it, and takes these whims."""
        made = Fetcher(self._settings, whims)
        made._address = self._address
        made._stopped = self._stopped
        made._queue = self.rows()
        made._held = self.held_row()
        return made

    def _wait_less(self):
        if self._held is not None and self._held[5] > 0:
            self._held = (*self._held[:5], self._held[5] - 1)

    def _made(self, buffer, hierarchy, controls):
        """The row at the address, as it is held."""
        address = self._address
        place, cause, leans, cycles = asked(
            buffer, hierarchy, self._whims, self._settings, controls, address, "fetch"
        )
        if place is None:
            return (address, None, cause, address, leans, max(cycles - 1, 0))
        word, more = hierarchy.fetched(place)
        cause = BAD_INSTRUCTION if decoded(word) is None else NO_CAUSE
        return (address, word, cause, 0, leans + [place], cycles + more - 1)

    def _deliver(self, predictor):
        """The held row, whose wait is over, goes behind the queue."""
        address, word, cause, bad, leans, _ = self._held
        expected = next_address(address) if word is None else predictor.expected(address, word)
        self._queue.append((address, word, cause, bad, expected, leans))
        self._held = None
        self._address = expected
        self._stopped = cause != NO_CAUSE or sort_of(decoded(word)) == "lone"


def _with_new_leans(row, at):
    """The row with a new list of leans, which stands at a position of it."""
    return (*row[:at], list(row[at]), *row[at + 1:])
