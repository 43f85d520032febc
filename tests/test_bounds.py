"""Bounds [8b4]: within how many cycles there is a next step."""

import random
import unittest

from cores import WIDE, core_of
from kit import NO_OBJECTS, Case
from worlds import GREATEST, LEAST, set_word, some_settings, tame, world

from orderlycore.bounds import fetch_cycles, goes_on, most_cycles, read_cycles, work_cycles
from orderlycore.core import Core
from orderlycore.cycles import cycle, run
from orderlycore.errors import InvalidCore, InvalidSettings
from orderlycore.memory import Memory, memory_of
from orderlycore.pages import laid
from orderlycore.settings import Settings
from orderlycore.whims import Whims

HALT = ("halt",)


def all_told(settings):
    return [read_cycles(settings), fetch_cycles(settings), work_cycles(settings), most_cycles(settings)]


class Examples(Case):
    def test_example(self):
        memory = memory_of([(0, [33029, 51200])])
        core = Core(Settings([]), Whims([]), memory, [], [(2, 3)])
        run(core, 112, 18)
        self.same(
            [read_cycles(Settings([])), fetch_cycles(Settings([])), work_cycles(Settings([])), most_cycles(Settings([])),
             most_cycles(Settings([("wait2", 0), ("waitm", 0), ("over", 16)])), goes_on(core), core.waits()],
            [9, 27, 27, 57, 22, True, [13, 1]],
        )


class BySettings(Case):
    def test_the_least_and_the_greatest(self):
        self.same(all_told(Settings(LEAST)), [1, 3, 3, 9])
        self.same(all_told(Settings(GREATEST)), [34, 102, 102, 207])

    def test_each_part_of_a_reading(self):
        base = [("wait2", 0), ("waitm", 0), ("times", 1), ("over", 1)]
        for name, value in (("wait2", 9), ("waitm", 20), ("whim", 4)):
            many = 1 + value
            self.same(all_told(Settings(list(dict(base + [(name, value)]).items()))),
                      [many, 3 * many, 3 * many, 6 * many + 3])

    def test_slow_work(self):
        base = [("wait2", 0), ("waitm", 0)]
        for times, over, work in ((1, 1, 3), (4, 1, 4), (8, 7, 8), (1, 16, 16), (3, 3, 3), (8, 9, 9)):
            self.same(all_told(Settings(base + [("times", times), ("over", over)])), [1, 3, work, 6 + work])

    def test_all_other_settings_mean_nothing(self):
        dice = random.Random(40)
        for _ in range(100):
            told = dict(some_settings(dice))
            few = [(name, told[name]) for name in ("wait2", "waitm", "whim", "times", "over") if name in told]
            self.same(all_told(Settings(list(told.items()))), all_told(Settings(few)))


class GoesOn(Case):
    def test_random_worlds(self):
        for seed in range(40):
            core = Core(*world(seed))
            for _ in range(250):
                cycle(core)
                self.assertIs(goes_on(core), True)

    def test_the_longest_wait(self):
        """Everything misses, and whims add all they can."""
        settings = [("wait2", 9), ("waitm", 20), ("whim", 4), ("line", 1), ("sets1", 1), ("ways1", 1), ("sets2", 1),
                    ("ways2", 1), ("buffer", 1), ("fetch", 1), ("reorder", 2)]
        # Each fetch of a new page reads two entries and its word, and the load of another page does so, too.
        core = core_of(settings, ("lim", 1, 50), ("wrc", 1, 5), ("lim", 1, 17), *set_word(2, 320), ("wrc", 1, 0),
                       ("ld", 3, 2, 0), ("ld", 3, 2, 1), HALT, numbers=[4] * 200)
        memory = core.memory()
        laid(memory, 50, [51, 52], [(0, 0, 3), (20, 10, 3)])
        core = Core(core.settings(), Whims([4] * 200), memory, [], [])
        run(core, 3000, 99)
        bound = most_cycles(core.settings())
        self.same([bound, core.halted, goes_on(core)], [207, True, True])
        # The load is fetched in the cycle of the wrc ahead of it: 3 * 34 cycles, and as many for its work. A row that is
        # made in a step's own cycle comes one cycle ahead of the bound, which is told from the cycle -1 on.
        self.same(max(core.waits()), bound - 1)

    def test_just_at_the_bound_and_one_beyond(self):
        bound = most_cycles(Settings([]))
        core = core_of([], ("lim", 1, 5), HALT)
        run(core, 99, 1)
        # What is told of a core hangs on its waits alone: they are bent here.
        for late, is_right in ((0, True), (bound - 1, True), (bound, True), (bound + 1, False), (9 * bound, False)):
            one = core.copy()
            one._clock = core.clock + late
            self.same(goes_on(one), is_right)
        for wait, is_right in ((0, True), (bound, True), (bound + 1, False)):
            one = core.copy()
            one._cycles_of_rows = [wait - 1]
            one._clock = wait
            self.same([one.waits(), goes_on(one)], [[wait], is_right])
            one._cycles_of_rows = [3, 3 + wait]
            one._clock = wait + 4
            self.same([one.waits(), goes_on(one)], [[4, wait], is_right])

    def test_without_a_step(self):
        bound = most_cycles(Settings([]))
        core = core_of([], ("lim", 1, 5), HALT)
        for clock, is_right in ((0, True), (bound, True), (bound + 1, False)):
            one = core.copy()
            one._clock = clock
            self.same(goes_on(one), is_right)

    def test_halted_cores_need_no_next_step(self):
        core = core_of([], HALT)
        run(core, 99, 9)
        for _ in range(200):
            cycle(core)
        self.same([core.clock > 200, goes_on(core)], [True, True])

    def test_whims_that_add_cycles(self):
        for seed in range(10):
            dice = random.Random(seed)
            settings = Settings(list(dict(LEAST + [("whim", 4), ("twist", 1)]).items()))
            core = Core(settings, Whims([dice.choice([3, 4, 9, 14, 19]) for _ in range(200)]), tame(dice), [], [])
            run(core, 400, 400)
            self.same(goes_on(core), True)


class Refusals(Case):
    def test_all(self):
        for call in (read_cycles, fetch_cycles, work_cycles, most_cycles):
            self.refused_each(InvalidSettings, "value", NO_OBJECTS + [Settings, Whims([]), Settings([]).told()], call)
        self.refused_each(InvalidCore, "value", NO_OBJECTS + [Core, Settings([]), Memory()], goes_on)

    def test_by_name(self):
        core = core_of(WIDE, HALT)
        self.same([read_cycles(settings=Settings([])), fetch_cycles(settings=Settings([])),
                   work_cycles(settings=Settings([])), most_cycles(settings=Settings([])), goes_on(core=core)],
                  [9, 27, 27, 57, True])


if __name__ == "__main__":
    unittest.main()
