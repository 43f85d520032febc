"""The FRONT of a core: what it fetches by, and what its addresses lead to."""

from orderlycore.buffers import Buffer
from orderlycore.fetches import Fetcher
from orderlycore.hierarchy import Hierarchy
from orderlycore.memory import Memory
from orderlycore.predictors import Predictor
from orderlycore.walker import asked


class Front:
    """Hierarchy, buffer, predictor and fetcher, all by the same whims."""

    def __init__(self, settings, whims, memory):
        self._settings = settings
        self.whims = whims
        self.hierarchy = Hierarchy(settings, memory, whims)
        self.buffer = Buffer(settings.value("buffer"))
        self.predictor = Predictor(settings, whims)
        self.fetcher = Fetcher(settings, whims)

    def cycle(self, controls):
        """The fetcher's own cycle."""
        self.fetcher.cycle(self.predictor, self.buffer, self.hierarchy, controls)

    def looked_up(self, controls, address, way):
        """The tuple (place or None, cause, leans, cycles) of an address."""
        return asked(self.buffer, self.hierarchy, self.whims, self._settings, controls, address, way)

    def stored(self, place, word):
        """A word is stored in memory: whether what is fetched already leans on it."""
        self.hierarchy.written(place, word)
        self.buffer.stored(place)
        return self.fetcher.leans_on(place)

    def copy(self):
        """A front that is as this one is now, and changes apart from it."""
        whims = self.whims.copy()
        made = Front(self._settings, whims, Memory())
        made.hierarchy = self.hierarchy.copy_by(whims)
        made.buffer = self.buffer.copy()
        made.predictor = self.predictor.copy(whims)
        made.fetcher = self.fetcher.copy(whims)
        return made
