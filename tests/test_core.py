"""A core's parts, what it tells, copies and refusals [8a1] to [8a3]."""

import unittest

from cores import WIDE, core_of, told
from kit import BIG, NO_COUNTS, NO_LINES, NO_LISTS, NO_OBJECTS, NO_TUPLES, NO_WORDS, Case
from worlds import words, world

from orderlycore.core import Core
from orderlycore.cycles import cycle, run
from orderlycore.devices import Devices
from orderlycore.errors import InvalidInputs, InvalidMemory, InvalidRaises, InvalidSettings, InvalidWhims
from orderlycore.memory import Memory, memory_of
from orderlycore.settings import Settings
from orderlycore.whims import Whims

PROGRAM = [("lim", 1, 192), ("lhi", 1, 3), ("ld", 2, 1, 0), ("mul", 3, 2, 2), ("st", 3, 1, 0), ("st", 2, 0, 15),
           ("addi", 4, 4, 1), ("bz", 5, -1), ("halt",)]


def some(cycles, numbers=(1, 2, 3) * 20):
    """A core in the midst of its work."""
    core = core_of(WIDE + [("twist", 1), ("times", 3)], *PROGRAM, inputs=[7, 8], numbers=numbers,
                   raises=[(2, 1), (9, 3), (40, 0)])
    run(core, cycles, 999)
    return core


class AtFirst(Case):
    def test_told(self):
        core = Core(Settings([]), Whims([]), memory_of([(5, [7])]), [4, 5], [(0, 1)])
        self.same(told(core), (0, 0, 0, False, [0] * 8, [1] + [0] * 7, [(5, 7)], ([4, 5], [], 0, 0, []), [], [], [], []))
        self.same([type(core.memory()), type(core.devices())], [Memory, Devices])

    def test_each_setting_at_its_ends(self):
        for settings in (Settings([("physical", 9), ("reorder", 2)]), Settings([("physical", 48), ("reorder", 32)])):
            self.same(Core(settings, Whims([]), Memory(), [], []).in_flight(), [])


class Told(Case):
    def test_in_flight(self):
        core = some(0)
        seen = []
        while not core.steps:
            cycle(core)
            seen.append(core.in_flight())
        found = words(*PROGRAM)
        self.same(seen[1], [(at, at, found[at], False, 0) for at in range(4)])
        for number, address, word, is_done, cause in [row for rows in seen for row in rows]:
            self.assertEqual((number, word, cause), (address, found[address], 0))
            self.assertIs(type(is_done), bool)

    def test_memory_is_what_is_seen(self):
        core = core_of([("sets2", 1), ("ways2", 1)], ("lim", 1, 9), ("st", 1, 0, 15), ("halt",))
        run(core, 99, 99)
        self.same([core.memory().word(15), core.front.hierarchy.below(15)], [9, 0])
        for place in range(960):
            self.assertEqual(core.memory().word(place), core.front.hierarchy.seen(place))

    def test_memory_behind_what_went_out_of_the_caches(self):
        program = [("lim", 1, 90), ("st", 1, 1, 0)] + [("ld", 2, 1, near) for near in range(1, 9)] + [("halt",)]
        core = core_of([("line", 1), ("sets2", 1), ("ways2", 1), ("sets1", 1)], *program)
        run(core, 999, 99)
        self.same([core.memory().word(90), core.front.hierarchy.below(90), core.halted], [90, 90, True])

    def test_waits(self):
        core = some(60)
        now, cycles = -1, []
        for wait in core.waits():
            now += wait
            cycles.append(now)
        self.assertEqual(len(cycles), core.steps)
        again, seen = some(0), []
        for number in range(60):
            seen += [number] * len(cycle(again))
        self.same(cycles, seen)

    def test_registers_are_those_of_the_steps_that_are_done(self):
        core = some(0)
        registers = [0] * 8
        for _ in range(80):
            for row in cycle(core):
                if row[3] is not None:
                    registers[row[3]] = row[4]
            self.same(core.registers(), registers)

    def test_raised(self):
        core = some(0)
        for number in range(45):
            steps = core.steps
            before = len(core.raised())
            cycle(core)
            lines = [line for at, line in [(2, 1), (9, 3), (40, 0)] if at == number]
            self.same(core.raised()[before:], [(steps, line) for line in lines])


class Apart(Case):
    def test_it_goes_by_copies(self):
        whims, memory, inputs, raises = Whims([3] * 50), memory_of([(0, words(*PROGRAM))]), [7, 8], [(2, 1)]
        core = Core(Settings([("twist", 1)]), whims, memory, inputs, raises)
        run(core, 99, 99)
        self.same([whims.taken, inputs, raises, memory.rows()],
                  [0, [7, 8], [(2, 1)], memory_of([(0, words(*PROGRAM))]).rows()])
        core = Core(Settings([]), Whims([]), memory, inputs, raises)
        memory.put(0, 0)
        inputs.append(9)
        raises.append((5, 2))
        run(core, 99, 99)
        self.same([core.devices().left(), core.raised(), core.rows()[0][1]], [[8], [(0, 1)], words(*PROGRAM)[0]])

    def test_whims_go_on_where_they_are(self):
        whims = Whims([1, 1, 3, 0, 2])
        whims.take(4)
        whims.take(4)
        core = Core(Settings([("twist", 1)]), whims, Memory(), [], [])
        self.same([core.front.whims.taken, whims.taken], [2, 2])
        other = Core(Settings([("twist", 1)]), Whims([3, 0, 2]), memory_of([(0, words(*PROGRAM))]), [], [])
        core = Core(Settings([("twist", 1)]), whims, memory_of([(0, words(*PROGRAM))]), [], [])
        run(core, 60, 99)
        run(other, 60, 99)
        self.same(told(core), told(other))

    def test_copies_amid_a_run(self):
        whole = some(90)
        for cycles in (0, 1, 3, 5, 8, 12, 15, 20, 30, 70):
            core = some(cycles)
            before, copied = told(core), core.copy()
            self.assertIs(type(copied), Core)
            self.same([told(copied), copied.front.whims.taken], [before, core.front.whims.taken])
            run(copied, 90 - cycles, 999)
            self.same(told(core), before)
            self.same(told(copied), told(whole))
            run(core, 90 - cycles, 999)
            self.same(told(core), told(whole))

    def test_copies_of_random_worlds(self):
        # What was learned, kept and fetched is copied, too: else they would go on at other cycles.
        for seed in range(25):
            core = Core(*world(seed))
            run(core, 170, 999)
            copied = core.copy()
            run(core, 170, 999)
            run(copied, 170, 999)
            self.same(told(copied), told(core))
            self.same(copied.copy().halted, core.halted)

    def test_copies_of_halted_ones(self):
        core = core_of(WIDE, ("halt",), raises=[(9, 1)])
        run(core, 99, 99)
        copied = core.copy()
        self.same([told(copied), copied.halted], [told(core), True])
        for _ in range(9):
            self.same(cycle(copied), [])
        self.same([copied.raised(), core.raised()], [[(1, 1)], []])

    def test_a_copy_of_a_copy(self):
        core = some(8).copy().copy()
        run(core, 82, 999)
        self.same(told(core), told(some(90)))

    def test_what_is_returned_is_new(self):
        core = some(14)
        before = told(core)
        for one in (core.registers(), core.controls(), core.rows(), core.raised(), core.waits(), core.in_flight()):
            one.clear()
        core.memory().put(0, 77)
        core.devices().raised(2)
        core.devices().read(960)
        self.same(told(core), before)

    def test_tuples_and_names(self):
        core = Core(settings=Settings([]), whims=Whims([]), memory=Memory(), inputs=(3, 4), raises=((0, 1),))
        cycle(core)
        self.same([core.devices().left(), core.raised()], [[3, 4], [(0, 1)]])


class Refusals(Case):
    def make(self, settings=None, whims=None, memory=None, inputs=(), raises=()):
        return Core(settings or Settings([]), whims or Whims([]), memory or Memory(), inputs, raises)

    def test_each_parameter(self):
        one, other, third = Settings([]), Whims([]), Memory()
        self.refused_each(InvalidSettings, "value", NO_OBJECTS + [Settings, other, third, one.told()],
                          lambda value: Core(value, other, third, [], []))
        self.refused_each(InvalidWhims, "value", NO_OBJECTS + [Whims, one, [3]],
                          lambda value: Core(one, value, third, [], []))
        self.refused_each(InvalidMemory, "value", NO_OBJECTS + [Memory, one, Devices([])],
                          lambda value: Core(one, other, value, [], []))
        wrong = NO_LISTS + [[1, word] for word in NO_WORDS] + [(word,) for word in NO_WORDS] + [[0] * 41]
        self.refused_each(InvalidInputs, "value", wrong, lambda value: Core(one, other, third, value, []))
        wrong = NO_LISTS + [[value] for value in NO_TUPLES + [(), (1,), (1, 2, 3), [1, 2]]]
        wrong += [[(0, 1), (value, 1)] for value in NO_COUNTS + [100001, BIG]]
        wrong += [((0, 1), (0, value)) for value in NO_LINES] + [[(0, 0)] * 41]
        self.refused_each(InvalidRaises, "value", wrong, lambda value: Core(one, other, third, [], value))
        self.refused_in_sequence(Core, (one, InvalidSettings, other), (other, InvalidWhims, one),
                                 (third, InvalidMemory, None), ([], InvalidInputs, [-1]),
                                 ([], InvalidRaises, [(0, 4)]))

    def test_the_most(self):
        core = Core(Settings([]), Whims([]), Memory(), [65535] * 40, [(100000, 3)] * 39 + [(0, 0)])
        cycle(core)
        self.same([core.devices().left(), core.raised()], [[65535] * 40, [(0, 0)]])


if __name__ == "__main__":
    unittest.main()
