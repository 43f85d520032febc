"""RENAMING: registers stand in cells, and no cell is written again as long as its word may be wanted."""

from orderlycore.basics import is_between, need_many
from orderlycore.errors import InvalidCell, NotNewest, NotOldest, NotReady, NotWaiting, NothingFree, StillLent
from orderlycore.words import REGISTERS, need_register, need_word

_LEAST_CELLS = 9
_MOST_CELLS = 48


class Renamer:
    """Cells, the new and the old map of the registers, the free list, and the open lendings."""

    def __init__(self, many):
        need_many(many, _LEAST_CELLS, _MOST_CELLS)
        self._new_map = list(range(REGISTERS))
        self._old_map = list(range(REGISTERS))
        self._free = list(range(REGISTERS, many))
        # Tuples (register, new, old), the oldest one first.
        self._lendings = []
        # Of each cell its word, None unless it is ready.
        self._cells = [0] * REGISTERS + [None] * (many - REGISTERS)

    @property
    def can_lend(self):
        """Whether a cell is free."""
        return len(self._free) > 0

    def place_of(self, which):
        """The cell in which a register stands for what comes next."""
        need_register(which)
        return self._new_map[which]

    def lent(self, which):
        """Lend a cell for a register: the tuple (new, old)."""
        need_register(which)
        if not self._free:
            raise NothingFree()
        new = self._free.pop(0)
        old = self._new_map[which]
        self._new_map[which] = new
        self._lendings.append((which, new, old))
        return (new, old)

    def put(self, at, value):
        """The waiting cell holds the value, and is ready."""
        self._need_cell(at)
        need_word(value)
        if self._cells[at] is not None or at in self._free:
            raise NotWaiting()
        self._cells[at] = value

    def is_ready(self, at):
        """Whether a cell is ready."""
        self._need_cell(at)
        return self._cells[at] is not None

    def value(self, at):
        """The word that a cell holds."""
        self._need_cell(at)
        if self._cells[at] is None:
            raise NotReady()
        return self._cells[at]

    def undone(self, which, new, old):
        """Undo the newest open lending."""
        self._need_lending(which, new, old)
        if self._lendings[-1:] != [(which, new, old)]:
            raise NotNewest()
        self._lendings.pop()
        self._new_map[which] = old
        self._cells[new] = None
        self._free.insert(0, new)

    def kept(self, which, new, old):
        """Keep the oldest open lending."""
        self._need_lending(which, new, old)
        if self._lendings[:1] != [(which, new, old)]:
            raise NotOldest()
        if self._cells[new] is None:
            raise NotReady()
        self._lendings.pop(0)
        self._old_map[which] = new
        self._cells[old] = None
        self._free.append(old)

    def written(self, which, value):
        """The old map's cell of a register holds the value from now on."""
        need_register(which)
        need_word(value)
        if self._lendings:
            raise StillLent()
        self._cells[self._old_map[which]] = value

    def kept_words(self):
        """The list of the eight words that are sure."""
        return [self._cells[at] for at in self._old_map]

    def writes(self):
        """The list of the tuples (register, word or None) of the open lendings, the oldest one first."""
        return [(which, self._cells[new]) for which, new, _ in self._lendings]

    def lendings(self):
        """The list of the open lendings, the oldest one first."""
        return list(self._lendings)

    def free(self):
        """The free list."""
        return list(self._free)

    def told(self):
        """The tuple of the new map, the old map, the free list, the open lendings, and the cells' words."""
        return (
            tuple(self._new_map),
            tuple(self._old_map),
            tuple(self._free),
            tuple(self._lendings),
            tuple(self._cells),
        )

    def copy(self):
        """A renamer that is as this one is now, and changes apart from it."""
        made = Renamer(len(self._cells))
        made._new_map = list(self._new_map)
        made._old_map = list(self._old_map)
        made._free = list(self._free)
        made._lendings = list(self._lendings)
        made._cells = list(self._cells)
        return made

    def __eq__(self, other):
        return isinstance(other, Renamer) and self.told() == other.told()

    def _need_cell(self, value):
        if not is_between(value, 0, len(self._cells) - 1):
            raise InvalidCell(value)

    def _need_lending(self, which, new, old):
        need_register(which)
        self._need_cell(new)
        self._need_cell(old)
