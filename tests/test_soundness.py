"""Rules [8b5]: each core keeps them behind each cycle, and a core that is bent by hand breaks them."""

import unittest

from cores import WIDE, core_of, told
from kit import NO_OBJECTS, Case
from worlds import put_all, set_word, words, world

from orderlycore.core import Core
from orderlycore.cycles import cycle, run
from orderlycore.errors import InvalidCore
from orderlycore.memory import Memory, memory_of
from orderlycore.pages import laid
from orderlycore.settings import Settings
from orderlycore.soundness import broken_rules, is_sound, rules
from orderlycore.whims import Whims

RULES = ["home", "path", "fetched", "names", "ready", "stages", "queues", "caches", "buffer"]
PROGRAM = set_word(1, 960) + [("mul", 3, 3, 3), ("ld", 2, 1, 0), ("add", 2, 2, 2), ("st", 3, 0, 15), ("lim", 4, 1),
                              ("bz", 3, 2), ("ld", 5, 0, 14), ("halt",)]


def busy():
    """A core with entries in each stage but lone ones, rows in the queue, and pages."""
    memory = Memory()
    setup = [("lim", 1, 50), ("wrc", 1, 5), ("lim", 1, 17), ("wrc", 1, 0)]
    put_all(memory, 0, words(*setup, *PROGRAM))
    laid(memory, 50, [51, 52], [(0, 0, 3), (60, 60, 3)])
    core = Core(Settings(list(dict(WIDE + [("times", 8), ("stations", 3), ("queue", 3)]).items())), Whims([]), memory,
                [7], [])
    # Till the mul is the oldest, and has still to run for some cycles.
    while core.home != 6:
        cycle(core)
    run(core, 3, 99)
    return core


class Examples(Case):
    def test_example(self):
        core = Core(Settings([]), Whims([]), memory_of([(0, [33029, 51200])]), [], [(2, 3)])
        run(core, 112, 18)
        self.same([rules()[:4], broken_rules(core), is_sound(Core(Settings([]), Whims([]), memory_of([]), [], []))],
                  [["home", "path", "fetched", "names"], [], True])


class Sound(Case):
    def test_rules(self):
        self.same(rules(), RULES)
        rules().clear()
        self.same(rules(), RULES)

    def test_behind_each_cycle_of_random_worlds(self):
        for seed in range(60):
            core = Core(*world(seed))
            for number in range(200):
                cycle(core)
                found = broken_rules(core)
                if found:
                    self.fail(f"{found} behind the cycle {number} of the world {seed}")

    def test_at_first_and_halted(self):
        core = core_of(WIDE, ("lim", 1, 5), ("halt",), raises=[(20, 1)])
        for _ in range(30):
            self.same([broken_rules(core), is_sound(core)], [[], True])
            cycle(core)
        self.same(core.halted, True)

    def test_nothing_changes(self):
        core = busy()
        before = told(core)
        self.same([broken_rules(core=core), is_sound(core=core), told(core)], [[], True, before])


class Broken(Case):
    """Each rule by itself; what is bent is told by the parts' own ways, or by what they hold."""

    def broken(self, change, words_of_rules):
        core = busy()
        self.same(broken_rules(core), [])
        change(core)
        self.same([broken_rules(core), is_sound(core)], [words_of_rules, False])

    def number_of(self, core, kind):
        return [number for number in core.flights.orders.numbers() if core.flights.entry(number).kind == kind][0]

    def test_the_core_is_busy(self):
        core = busy()
        flights = core.flights
        self.assertTrue(flights.stations.held and flights.units.held and core.front.fetcher.rows())
        self.assertTrue([one for one in flights.all_entries() if one.device is not None])
        self.assertTrue([row for row in core.in_flight() if row[3]])
        self.assertTrue(core.front.buffer.rows())

    def test_home(self):
        for home in (0, 5, 7, 4095):
            def change(core, home=home):
                core._home = home
            self.broken(change, ["home"])

    def test_home_without_entries(self):
        for cycles, rows, held in ((0, 0, False), (1, 0, True), (9, 2, True)):
            core = core_of([("line", 2), ("retire", 1)], ("lim", 1, 5), ("lim", 2, 5), ("lim", 3, 5), ("halt",))
            run(core, cycles, 99)
            self.same([len(core.front.fetcher.rows()), core.front.fetcher.held_row() is not None, core.in_flight()],
                      [rows, held and cycles == 1, []])
            core._home = 1
            self.same(broken_rules(core), ["home"])
            core._home = 0
            self.same(broken_rules(core), [])

    def test_home_does_not_matter_when_halted(self):
        core = core_of(WIDE, ("halt",))
        run(core, 99, 99)
        core._home = 77
        self.same(broken_rules(core), [])

    def test_path(self):
        def next_one(core):
            fetcher = core.front.fetcher
            fetcher._address = 3
            fetcher._stopped = False
            fetcher._held = None
        self.broken(next_one, ["path"])

        def queue(core):
            core.front.fetcher._queue.pop(0)
        self.broken(queue, ["path"])

        def expected(core):
            number = self.number_of(core, "branch")
            row = core.flights.entry(number).row
            core.flights.entry(number).row = row[:4] + (row[4] + 1, row[5])
        self.broken(expected, ["path"])

        def behind(core):
            number = self.number_of(core, "store")
            entry = core.flights.entry(number)
            if entry.outcome is None:
                core.flights.units.dropped(number)
                core.flights.stations.dropped(number)
            entry.outcome = (entry.row[:2] + (0,) + (None,) * 4, 0, 3)
        core = busy()
        behind(core)
        self.assertIn("path", broken_rules(core))

    def test_path_of_the_held_row(self):
        core = core_of([("line", 1)], ("lim", 1, 5), ("lim", 2, 5), ("halt",))
        run(core, 10, 99)
        held = core.front.fetcher.held_row()
        self.same([held[0], len(core.front.fetcher.rows()) + len(core.in_flight())], [1, 1])
        core.front.fetcher._held = (2,) + held[1:]
        self.same(broken_rules(core)[0], "path")

    def test_a_stopped_fetcher_fetches_nothing_next(self):
        core = core_of(WIDE, ("mul", 1, 1, 1), ("halt",))
        run(core, 3, 99)
        core.front.fetcher._address = 99
        self.same([core.front.fetcher.stopped, broken_rules(core)], [True, []])

    def test_fetched(self):
        def entry(core):
            place = core.flights.entry(core.flights.orders.numbers()[-1]).row[0]
            core.front.hierarchy.written(place, 7)
        self.broken(entry, ["fetched"])

        def queue(core):
            core.front.hierarchy.written(core.front.fetcher.rows()[-1][0], 7)
        self.broken(queue, ["fetched"])

        def rights(core):
            core.set_controls([16] + core.controls()[1:])
            core.front.hierarchy.written(51 * 16, 32768)
            core.front.buffer.cleared()
        self.broken(rights, ["fetched"])

        def leans(core):
            number = core.flights.orders.oldest()
            row = core.flights.entry(number).row
            core.flights.entry(number).row = row[:5] + (row[5][1:],)
        self.broken(leans, ["fetched"])

    def test_fetched_by_the_held_row(self):
        core = core_of([("line", 1)], ("lim", 1, 5), ("lim", 2, 5), ("halt",))
        run(core, 10, 99)
        held = core.front.fetcher.held_row()
        core.front.fetcher._held = (held[0], 9) + held[2:]
        self.same(broken_rules(core), ["fetched"])

    def test_names(self):
        def lost(core):
            core.flights.renamer._free.pop()
        self.broken(lost, ["names"])

        def twice(core):
            core.flights.renamer._free[0] = core.flights.renamer._old_map[0]
        self.broken(twice, ["names"])

        def not_ready(core):
            core.flights.renamer._cells[core.flights.renamer._old_map[6]] = None
        self.broken(not_ready, ["names"])

        def other_map(core):
            renamer = core.flights.renamer
            renamer._new_map[6], renamer._new_map[7] = renamer._new_map[7], renamer._new_map[6]
        self.broken(other_map, ["names"])

        def others_lending(core):
            core.flights.renamer.lent(6)
        self.broken(others_lending, ["names"])

    def test_ready(self):
        def too_soon(core):
            core.flights.renamer.put(core.flights.entry(self.number_of(core, "times")).lending[1], 5)
        self.broken(too_soon, ["ready"])

        def not_at_all(core):
            done = [row[0] for row in core.in_flight() if row[3] and core.flights.entry(row[0]).lending]
            core.flights.renamer._cells[core.flights.entry(done[0]).lending[1]] = None
        self.broken(not_at_all, ["ready"])

    def test_stages(self):
        def none(core):
            core.flights.stations.picked(core.flights.stations.numbers()[0])
        self.broken(none, ["stages"])

        def no_unit(core):
            core.flights.units.dropped(core.flights.units.numbers()[-1])
        self.broken(no_unit, ["stages"])

        def two(core):
            core.flights.units.begun(core.flights.stations.numbers()[0], 3, None)
        self.broken(two, ["stages"])

        def done_and_running(core):
            done = [row[0] for row in core.in_flight() if row[3]]
            core.flights.units.begun(done[0], 3, None)
        self.broken(done_and_running, ["stages"])

        def others_run(core):
            core.flights.units.begun(99, 3, None)
        self.broken(others_run, ["stages"])

        def others_wait(core):
            core.flights.stations._many = 9
            core.flights.stations.put(99, [], [])
        self.broken(others_wait, ["stages"])

    def test_queues(self):
        def lost(core):
            core.flights.queues.dropped(self.number_of(core, "store"))
        self.broken(lost, ["queues"])

        def more_loads(core):
            core.flights.queues.load_entered(99)
        self.broken(more_loads, ["queues"])

        def more_stores(core):
            core.flights.queues.store_entered(99)
        self.broken(more_stores, ["queues"])

    def test_caches(self):
        def below(core):
            lines = core.front.hierarchy.lines()[2]
            first = [line for row in lines for line in row if not line[2]][0][0]
            core.front.hierarchy._memory.put(first, 12345)
        self.broken(below, ["caches"])

        def first_cache(core):
            core.front.hierarchy._reads.put(800, 12345, False)
        self.broken(first_cache, ["caches"])

        def fetches(core):
            core.front.hierarchy._fetches.put(0, 12345, False)
        self.broken(fetches, ["caches"])

        for name in ("_fetches", "_reads", "_second"):
            def twice(core, name=name):
                sets = getattr(core.front.hierarchy, name)._sets
                line = [line for row in sets for line in row][0]
                sets[0].append(line)
            self.broken(twice, ["caches"])

    def test_written_lines_may_differ_from_memory(self):
        core = core_of(WIDE, ("st", 0, 0, 15), ("lim", 1, 3), ("st", 1, 0, 14), ("halt",))
        run(core, 99, 99)
        self.same([core.front.hierarchy.below(14), core.memory().word(14), broken_rules(core)], [0, 3, []])

    def test_buffer(self):
        def word(core):
            page, first, second, entry = core.front.buffer.rows()[0]
            core.front.buffer.entered(page, first, second, entry - 1)
        self.broken(word, ["buffer"])

        def places(core):
            page, first, second, entry = core.front.buffer.rows()[0]
            core.front.buffer.entered(page, first + 1, second, entry)
        self.broken(places, ["buffer"])

        def not_there(core):
            core.front.buffer.entered(5, 800, 51 * 16 + 5, 0)
        self.broken(not_there, ["buffer"])

        def other_root(core):
            page, first, second, entry = core.front.buffer.rows()[0]
            core.front.buffer.entered(77, first, second, entry)
        self.broken(other_root, ["buffer"])

    def test_several_in_their_sequence(self):
        def change(core):
            core.front.buffer.entered(77, 5, 6, 7)
            core.flights.queues.load_entered(99)
            core.flights.units.begun(99, 3, None)
            core._home = 1
        self.broken(change, ["home", "stages", "queues", "buffer"])

        def root(core):
            core.set_controls(core.controls()[:5] + [9] + core.controls()[6:])
        self.broken(root, ["fetched", "buffer"])


class Refusals(Case):
    def test_all(self):
        for call in (broken_rules, is_sound):
            self.refused_each(InvalidCore, "value", NO_OBJECTS + [Core, Settings([]), Memory()], call)


if __name__ == "__main__":
    unittest.main()
