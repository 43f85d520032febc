"""Random cores beside the plain machine [4], [8a9], [8b2], [8b4], [8b5]: behind each cycle."""

import random
import unittest

from kit import Case
from models import Machine
from worlds import BOUNDS, GREATEST, LEAST, tame, world

from orderlycore.core import Core
from orderlycore.cycles import cycle, run
from orderlycore.meanings import follows, meaning
from orderlycore.settings import Settings
from orderlycore.states import State, snapshot
from orderlycore.whims import Whims


class Beside:
    """A core, and beside it the plain machine written once more."""

    def __init__(self, case, settings, whims, memory, inputs, raises):
        self.case, self.begin = case, State(memory, inputs)
        self.core = Core(settings, whims, memory, inputs, raises)
        self.machine = Machine([memory.word(place) for place in range(960)], inputs)
        self.seen = {}

    def cycle(self):
        """One cycle: all that the core tells is what the machine tells."""
        case, core, machine = self.case, self.core, self.machine
        before = len(core.raised())
        rows = cycle(core)
        # What is raised in a cycle comes ahead of its steps.
        machine.lines |= {line for _, line in core.raised()[before:]}
        case.assertEqual(rows, [machine.step() for _ in rows])
        case.assertEqual(snapshot(meaning(core)), machine.told())
        case.assertEqual((core.registers(), core.controls(), core.home, core.halted, core.steps),
                         (machine.registers, machine.controls, machine.address, machine.halted, machine.done))
        case.assertEqual((core.memory().rows(), core.devices().told()), machine.told()[5:])
        for row in rows:
            self.seen[row[2]] = self.seen.get(row[2], 0) + 1

    def cycles(self, many):
        while many and not self.core.halted:
            self.cycle()
            many -= 1
        if self.core.halted:
            self.cycle()
        self.case.assertIs(follows(self.core, self.begin), True)


class Runs(Case):
    def test_random_worlds(self):
        seen = {}
        for seed in range(70):
            with self.subTest(seed=seed):
                beside = Beside(self, *world(seed))
                beside.cycles(300)
                for cause, many in beside.seen.items():
                    seen[cause] = seen.get(cause, 0) + many
        self.assertEqual(sorted(seen), [0, 1, 2, 3, 4, 5, 6, 7, 8, 16, 17, 18, 19])

    def test_each_setting_alone_at_its_ends(self):
        dice = random.Random(30)
        for at, (name, bounds) in enumerate(BOUNDS.items()):
            for value in bounds:
                with self.subTest(name=name, value=value):
                    whims = Whims([dice.randrange(5000) for _ in range(200)])
                    raises = [(dice.randrange(200), dice.randrange(4)) for _ in range(6)]
                    Beside(self, Settings([(name, value)]), whims, tame(random.Random(at)), [3, 4], raises).cycles(150)

    def test_all_settings_at_their_ends(self):
        for settings in (LEAST, GREATEST):
            for twist in (0, 1):
                dice = random.Random(31 + twist)
                whims = Whims([dice.randrange(100) for _ in range(200)])
                told = list(dict(settings + [("twist", twist)]).items())
                Beside(self, Settings(told), whims, tame(dice), [5], [(90, 1), (91, 0)]).cycles(400)

    def test_one_program_by_all_settings_and_whims(self):
        wanted = None
        memory = tame(random.Random(7))
        for turn in range(12):
            settings, whims = world(turn)[:2]
            core = Core(settings, whims, memory, [1, 2, 3], [])
            while core.steps < 250 and not core.halted:
                run(core, 500, 250 - core.steps)
            rows = core.rows()[:250]
            wanted = wanted or rows
            self.assertEqual(rows, wanted)


if __name__ == "__main__":
    unittest.main()
