"""SOUNDNESS: the rules that a core keeps behind each cycle."""

from orderlycore.causes import BAD_INSTRUCTION, NO_CAUSE
from orderlycore.controls import root_frame
from orderlycore.core import need_core
from orderlycore.instructions import decoded
from orderlycore.pages import entry_parts, page_walk
from orderlycore.states import led_to


def _keeps_home(core):
    return core.halted or core.home == _addresses(core)[0]


def _keeps_path(core):
    behind = [_address_behind(entry) for entry in core.flights.all_entries()]
    behind += [row[4] for row in core.front.fetcher.rows()]
    pairs = list(zip(behind, _addresses(core)[1:]))
    if core.front.fetcher.stopped:
        # Behind the last row nothing is fetched till it is known where it goes on.
        pairs = pairs[:-1]
    return all([wanted == address for wanted, address in pairs])


def _keeps_fetched(core):
    memory = core.memory()
    told = [(row[0], row[1], row[2], row[5]) for row in _fetched_rows(core)]
    held = core.front.fetcher.held_row()
    if held is not None:
        told.append((held[0], held[1], held[2], held[4]))
    return all([row == _fetched_now(core, memory, row[0]) for row in told])


def _keeps_names(core):
    new_map, old_map, free, lendings, cells = core.flights.renamer.told()
    lent = [new for _, new, _ in lendings]
    wanted = list(old_map)
    for which, new, _ in lendings:
        wanted[which] = new
    return (
        sorted(list(old_map) + lent + list(free)) == list(range(len(cells)))
        and all([cells[at] is not None for at in old_map])
        and list(new_map) == wanted
        and list(lendings) == [entry.lending for entry in core.flights.all_entries() if entry.lending is not None]
    )


def _keeps_ready(core):
    flights = core.flights
    for number in flights.orders.numbers():
        entry = flights.entry(number)
        is_there = flights.orders.is_done(number) and entry.outcome[0][2] == NO_CAUSE
        if entry.lending is not None and flights.renamer.is_ready(entry.lending[1]) != is_there:
            return False
    return True


def _keeps_stages(core):
    flights = core.flights
    numbers = flights.orders.numbers()
    waiting = flights.stations.numbers()
    running = flights.units.numbers()
    if not all([number in numbers for number in waiting + running]):
        return False
    for number in numbers:
        entry = flights.entry(number)
        is_done = flights.orders.is_done(number)
        waits_for_device = entry.device is not None and not is_done
        stages = [is_done, number in waiting, number in running, waits_for_device, entry.is_alone()]
        if stages.count(True) != 1:
            return False
    return True


def _keeps_queues(core):
    queues = core.flights.queues
    loads = [row[0] for row in queues.loads()]
    stores = [row[0] for row in queues.stores()]
    return loads == _numbers_of(core, "load") and stores == _numbers_of(core, "store")


def _keeps_caches(core):
    hierarchy = core.front.hierarchy
    fetches, reads, second = [_flat(sets) for sets in hierarchy.lines()]
    for lines in (fetches, reads, second):
        if len(set([line[0] for line in lines])) != len(lines):
            return False
    for first, words, _ in fetches + reads:
        if words != [hierarchy.seen(first + at) for at in range(len(words))]:
            return False
    for first, words, is_written in second:
        if not is_written and words != [hierarchy.below(first + at) for at in range(len(words))]:
            return False
    return True


def _keeps_buffer(core):
    memory = core.memory()
    root = root_frame(core.controls())
    for page, first, second, word in core.front.buffer.rows():
        _, _, leans, told = page_walk(memory, root, page)
        if leans != [first, second] or told != word or not entry_parts(word)[0]:
            return False
    return True


_RULES = {
    "home": _keeps_home,
    "path": _keeps_path,
    "fetched": _keeps_fetched,
    "names": _keeps_names,
    "ready": _keeps_ready,
    "stages": _keeps_stages,
    "queues": _keeps_queues,
    "caches": _keeps_caches,
    "buffer": _keeps_buffer,
}


def rules():
    """The list of the words of all rules, in their sequence."""
    return list(_RULES)


def broken_rules(core):
    """The list of the words of the rules that a core breaks, in their sequence."""
    need_core(core)
    return [word for word in _RULES if not _keeps(core, word)]


def is_sound(core):
    """Whether a core breaks no rule."""
    return broken_rules(core) == []


def _keeps(core, word):
    keeps = _RULES[word]
    return keeps(core)


def _fetched_rows(core):
    """The fetched rows of all entries, and behind them those of the queue."""
    return [entry.row for entry in core.flights.all_entries()] + core.front.fetcher.rows()


def _addresses(core):
    """The addresses of the entries, of the queue's rows, and of what is fetched behind them."""
    return [row[0] for row in _fetched_rows(core)] + [_address_to_come(core)]


def _address_to_come(core):
    held = core.front.fetcher.held_row()
    return core.front.fetcher.address if held is None else held[0]


def _address_behind(entry):
    """Where an entry goes on, as far as it is known."""
    if entry.outcome is None or entry.outcome[0][2] != NO_CAUSE:
        return entry.row[4]
    return entry.outcome[2]


def _fetched_now(core, memory, address):
    """The tuple (address, word, cause, leans) of what would be fetched now at an address."""
    place, cause, leans = led_to(memory, core.controls(), address, "fetch")
    if place is None:
        return (address, None, cause, leans)
    word = memory.word(place)
    cause = BAD_INSTRUCTION if decoded(word) is None else NO_CAUSE
    return (address, word, cause, leans + [place])


def _numbers_of(core, kind):
    """The numbers of the entries of a kind, the oldest one first."""
    return [number for number in core.flights.orders.numbers() if core.flights.entry(number).kind == kind]


def _flat(sets):
    """The list of the lines of all sets."""
    return [line for lines in sets for line in lines]
