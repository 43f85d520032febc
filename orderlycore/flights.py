"""What is in FLIGHT: entries, and the parts through which they go till their steps are done."""

from orderlycore.instructions import decoded, reads_of, sort_of, writes_of
from orderlycore.orders import Orders
from orderlycore.queues import Queues
from orderlycore.renames import Renamer
from orderlycore.stations import Stations
from orderlycore.units import Units


class Entry:
    """A fetched row in flight, and what is known of it so far."""

    def __init__(self, row):
        self.row = row
        # None of a failed fetch and of a bad word, as is the kind.
        self.instruction = None if row[1] is None else decoded(row[1])
        self.kind = None if self.instruction is None else sort_of(self.instruction)
        # Of each register that it reads the cell; lone instructions are not renamed.
        self.cells = {}
        self.lending = None
        self.leans = row[5]
        # The place of the device for which it waits, if it is a load that waits for one.
        self.device = None
        # None as long as it is not done, then the row of its step, the bad address of its trap, and its next address.
        self.outcome = None

    def is_alone(self):
        """Whether it is a lone instruction."""
        return self.kind == "lone"

    def is_renamed(self):
        """Whether it goes through stations and units."""
        return self.kind is not None and not self.is_alone()

    def writes(self):
        """The register for which a cell is lent, None without one."""
        return writes_of(self.instruction) if self.is_renamed() else None

    def copy(self):
        """An entry that is as this one is now, and changes apart from it."""
        made = Entry(self.row)
        made.cells = self.cells
        made.lending = self.lending
        made.leans = self.leans
        made.device = self.device
        made.outcome = self.outcome
        return made


class Flights:
    """The entries in flight, with the renamer, orders, stations, units and queues."""

    def __init__(self, settings):
        self._settings = settings
        self.renamer = Renamer(settings.value("physical"))
        self.orders = Orders(settings.value("reorder"))
        self.stations = Stations(settings.value("stations"))
        self.units = Units()
        self.queues = Queues(settings.value("loads"), settings.value("stores"))

    def entry(self, number):
        """The entry with a number."""
        return self.orders.thing(number)

    def all_entries(self):
        """The list of all entries, the oldest one first."""
        return [self.entry(number) for number in self.orders.numbers()]

    def has_room(self, entry):
        """Whether there is room for an entry."""
        if self.orders.held == self.orders.many:
            return False
        if entry.is_alone():
            return self.orders.held == 0
        if entry.kind == "load" and not self.queues.can_load:
            return False
        if entry.kind == "store" and not self.queues.can_store:
            return False
        if entry.writes() is not None and not self.renamer.can_lend:
            return False
        return self.stations.held < self.stations.many or not entry.is_renamed()

    def enter(self, entry):
        """An entry, for which there is room, comes into flight."""
        number = self.orders.entered(entry)
        if entry.kind is None:
            self.end(number, (trap_row(entry.row, entry.row[2]), entry.row[3], entry.row[4]))
        if entry.is_renamed():
            self._rename(number, entry)

    def end(self, number, outcome):
        """An entry is done with an outcome; what it writes is there for all that wait for it."""
        entry = self.entry(number)
        entry.outcome = outcome
        self.orders.done(number)
        value = outcome[0][4]
        if value is not None:
            cell = entry.lending[1]
            self.renamer.put(cell, value)
            self.stations.woken(cell)

    def leave(self):
        """The oldest entry, which is done, leaves."""
        number, entry = self.orders.left()
        if entry.lending is not None:
            self.renamer.kept(*entry.lending)
        if entry.kind in ("load", "store"):
            self.queues.leave(number)

    def dropped(self, number):
        """Drop from a number on."""
        for _, entry in self.orders.dropped(number):
            if entry.lending is not None:
                self.renamer.undone(*entry.lending)
        self.stations.dropped(number)
        self.units.dropped(number)
        self.queues.dropped(number)

    def leans_behind(self, number, place):
        """Whether a later entry leans on a place."""
        return any([place in self.entry(one).leans for one in self.orders.numbers() if one > number])

    def copy(self):
        """What is in flight now, which changes apart from this."""
        made = Flights(self._settings)
        made.renamer = self.renamer.copy()
        made.orders = self.orders.copy()
        made.stations = self.stations.copy()
        made.units = self.units.copy()
        made.queues = self.queues.copy()
        for number in self.orders.numbers():
            made.orders.changed(number, self.entry(number).copy())
        return made

    def _rename(self, number, entry):
        # Where it reads is looked up ahead of its own lending: it may write a register that it reads.
        entry.cells = {which: self.renamer.place_of(which) for which in reads_of(entry.instruction)}
        which = entry.writes()
        if which is not None:
            new, old = self.renamer.lent(which)
            entry.lending = (which, new, old)
        reads = list(entry.cells.values())
        self.stations.put(number, reads, [cell for cell in reads if self.renamer.is_ready(cell)])
        if entry.kind == "load":
            self.queues.load_entered(number)
        if entry.kind == "store":
            self.queues.store_entered(number)


def trap_row(row, cause):
    """The row of the step of a fetched row that traps."""
    return (row[0], row[1], cause, None, None, None, None)
