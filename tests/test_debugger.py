"""A debugger, its labels, marks and how it goes [9a2] to [9a5]."""

import random
import unittest

from cores import WIDE, core_of, told
from kit import BIG, NO_COUNTS, NO_LISTS, NO_OBJECTS, NO_STRINGS, NO_WORDS, Case
from test_points import NO_POINTS
from worlds import put_all, words, world

from orderlycore.bounds import most_cycles
from orderlycore.core import Core
from orderlycore.cycles import cycle, run
from orderlycore.debugger import Debugger
from orderlycore.errors import (InvalidCycles, InvalidInputs, InvalidLabel, InvalidMemory, InvalidPoint, InvalidRaises,
                                InvalidSettings, InvalidSteps, InvalidWhims, NoSuchLabel, TooMany)
from orderlycore.memory import Memory, memory_of
from orderlycore.plain import steps
from orderlycore.points import meets
from orderlycore.settings import Settings
from orderlycore.states import State, snapshot
from orderlycore.whims import Whims

FIVE, STOP = (0, 33029, 0, 1, 5, None, None), (1, 51200, 0, None, None, None, None)
HALT = ("halt",)
NO_LABELS = NO_STRINGS + ["", "A", "Five", "five ", " five", "five1", "a_b", "a-b", "ninelette", "a\n", "aB", "five five"]


def bug_of(settings, *instructions, inputs=(), raises=(), numbers=()):
    memory = Memory()
    put_all(memory, 0, words(*instructions))
    return Debugger(Settings(list(dict(settings).items())), Whims(numbers), memory, list(inputs), list(raises))


def counting():
    """A debugger of a loop: address 0 sets, 1 adds, 2 stores, 3 goes to 1."""
    return bug_of(WIDE, ("lim", 2, 64), ("addi", 1, 1, 1), ("st", 1, 2, 0), ("jal", 3, -2), raises=[(3, 1), (30, 2)])


def bug_told(bug):
    """All that a debugger tells."""
    return (bug.clock, bug.steps, bug.home, bug.halted, bug.agrees, bug.rows(), told(bug.core()),
            snapshot(bug.beside()), bug.points(), bug.marks())


def bent(bug, change):
    """The debugger whose core is changed by hand."""
    change(bug._core)
    return bug


class Examples(Case):
    def test_example(self):
        bug = Debugger(Settings([]), Whims([]), memory_of([(0, [33029, 51200])]), [], [(2, 3)])
        self.same(
            [bug.set_point("five", ("register", 1)), bug.run(100), bug.steps, bug.rows() == [FIVE], bug.mark("here"),
             bug.step() == [STOP], bug.halted, bug.step(), bug.run(9)],
            [None, (13, "five"), 1, True, None, True, True, [], (0, None)],
        )
        self.same(
            [bug.back("here"), bug.clock, bug.halted, bug.run_to(5), bug.steps, bug.agrees, bug.beside().registers()[1],
             bug.points(), bug.marks()],
            [None, 13, False, 1, 2, True, 5, [("five", ("register", 1))], ["here"]],
        )


class AtFirst(Case):
    def test_told(self):
        bug = bug_of(WIDE, HALT, inputs=[7], raises=[(2, 1)])
        memory = memory_of([(0, words(HALT))])
        self.same(bug_told(bug), (0, 0, 0, False, True, [], told(core_of(WIDE, HALT, inputs=[7])),
                                  snapshot(State(memory, [7])), [], []))
        self.same([type(bug.core()), type(bug.beside())], [Core, State])


class Cycles(Case):
    def test_as_the_core_by_itself(self):
        for seed in range(8):
            bug, core = Debugger(*world(seed)), Core(*world(seed))
            for _ in range(150):
                self.assertEqual(bug.cycle(), cycle(core))
                self.assertEqual((bug.clock, bug.steps, bug.home, bug.halted, bug.rows()),
                                 (core.clock, core.steps, core.home, core.halted, core.rows()))
            self.assertEqual(told(bug.core()), told(core))

    def test_the_state_does_as_many_steps(self):
        bug = bug_of(WIDE, ("lim", 1, 5), ("lim", 2, 6), ("mul", 1, 1, 2), HALT, raises=[(0, 1), (4, 2), (6, 3)])
        state = State(bug.core().memory(), [])
        raised = []
        for _ in range(14):
            rows = bug.cycle()
            raised = bug.core().raised()
            steps(state, len(rows), raised)
            self.alike(bug.beside(), state)
        # Lines that are raised since the last step are not raised at the state.
        self.same([bug.halted, raised, bug.beside().devices().told()[4]], [True, [(0, 1), (0, 2), (2, 3)], [1, 2, 3]])

    def test_lines_that_are_raised_since_the_last_step(self):
        bug = bug_of(WIDE, ("mul", 1, 1, 1), HALT, raises=[(2, 1)])
        bug.run(4)
        self.same([bug.core().devices().told()[4], bug.beside().devices().told()[4], bug.agrees], [[1], [], True])
        bug.step()
        self.same(bug.beside().devices().told()[4], [1])

    def test_halted_ones(self):
        bug = bug_of(WIDE, HALT, raises=[(9, 1)])
        bug.step()
        before = snapshot(bug.beside())
        for clock in range(bug.clock + 1, 15):
            self.same([bug.cycle(), bug.clock, bug.agrees], [[], clock, True])
        self.same([bug.core().raised(), snapshot(bug.beside())], [[(1, 1)], before])


class Agrees(Case):
    def test_behind_each_cycle(self):
        for seed in range(30):
            bug = Debugger(*world(seed))
            for _ in range(200):
                bug.cycle()
                self.assertIs(bug.agrees, True)

    def test_registers(self):
        def change(core):
            core.flights.renamer._cells[core.flights.renamer._old_map[5]] = 9
        bug = bent(counting(), change)
        self.same([bug.agrees, bug.cycle(), bug.agrees], [True, [], False])

    def test_controls(self):
        bug = bent(counting(), lambda core: core.set_controls([1, 0, 0, 0, 0, 0, 0, 7]))
        bug.cycle()
        self.same(bug.agrees, False)

    def test_home(self):
        def change(core):
            core._home = 1
        bug = bent(counting(), change)
        bug.cycle()
        self.same(bug.agrees, False)

    def test_halted(self):
        bug = bent(counting(), lambda core: core.halt())
        bug.cycle()
        self.same(bug.agrees, False)

    def test_rows_alone(self):
        # The store tells another place than the plain machine's; all else that is compared is alike.
        bug = bug_of(WIDE + [("times", 8)], ("mul", 1, 1, 1), ("st", 3, 2, 9), HALT)
        bug.run(6)
        entry = bug._core.flights.entry(1)
        row, bad, behind = entry.outcome
        entry.outcome = (row[:5] + (77, row[6]), bad, behind)
        bug.step()
        core, state = bug.core(), bug.beside()
        self.same([core.registers(), core.controls(), core.home, core.halted],
                  [state.registers(), state.controls(), state.address, state.halted])
        self.same([bug.rows()[1][5], bug.agrees], [77, False])

    def test_it_does_not_agree_again(self):
        bug = counting()
        bug.cycle()
        bug._core._home = 1
        bug.cycle()
        bug._core._home = 0
        self.same([bug.agrees, bug.cycle(), bug.agrees], [False, [], False])

    def test_copies_and_marks_keep_it(self):
        bug = counting()
        bug.mark("right")
        bug._core._home = 1
        bug.cycle()
        bug.mark("wrong")
        self.same([bug.copy().agrees, bug.back("right"), bug.agrees, bug.back("wrong"), bug.agrees],
                  [False, None, True, None, False])


class Points(Case):
    def test_set_and_dropped(self):
        bug = counting()
        self.same([bug.set_point("b", ("at", 3)), bug.set_point("abcdefgh", ("cause", 31)), bug.points()],
                  [None, None, [("abcdefgh", ("cause", 31)), ("b", ("at", 3))]])
        self.same([bug.set_point("b", ("place", 1023)), bug.points()],
                  [None, [("abcdefgh", ("cause", 31)), ("b", ("place", 1023))]])
        self.same([bug.drop_point("b"), bug.points()], [None, [("abcdefgh", ("cause", 31))]])
        self.refused(NoSuchLabel, {"label": "b"}, bug.drop_point, "b")

    def test_eight_and_a_ninth(self):
        bug = counting()
        for at, label in enumerate("hgfedcba"):
            bug.set_point(label, ("at", at))
        before = bug_told(bug)
        self.refused(TooMany, {"what": "points", "limit": 8}, bug.set_point, "i", ("at", 1))
        self.refused(InvalidPoint, {"value": ("at", 4096)}, bug.set_point, "i", ("at", 4096))
        self.refused(InvalidLabel, {"value": "I"}, bug.set_point, "I", ("at", 4096))
        self.same(bug_told(bug), before)
        bug.set_point("c", ("cause", 1))
        self.same(bug.points()[2], ("c", ("cause", 1)))
        bug.drop_point("a")
        bug.set_point("i", ("at", 1))
        self.same([label for label, _ in bug.points()], list("bcdefghi"))

    def test_a_point_and_a_mark_may_have_one_label(self):
        bug = counting()
        bug.set_point("x", ("at", 3))
        bug.mark("x")
        self.same([bug.points(), bug.marks()], [[("x", ("at", 3))], ["x"]])
        bug.drop_point("x")
        self.same([bug.points(), bug.marks()], [[], ["x"]])


class Going(Case):
    def test_a_step(self):
        bug = counting()
        for _ in range(12):
            before = bug.steps
            rows = bug.step()
            self.assertTrue(rows)
            self.same([bug.steps - before, bug.rows()[before:]], [len(rows), rows])
        bug = bug_of(WIDE, ("lim", 1, 1), ("lim", 2, 1), ("lim", 3, 1), HALT)
        self.same([len(bug.step()), bug.clock, len(bug.step()), bug.clock, bug.step(), bug.clock], [3, 5, 1, 6, [], 6])

    def test_a_run_to_a_point(self):
        bug = counting()
        bug.set_point("store", ("place", 64))
        done, label = bug.run(100)
        self.same([label, bug.clock, [row[5] for row in bug.rows()].count(64)], ["store", done, 1])
        # It goes on behind what was met.
        more, label = bug.run(100)
        self.same([label, more > 0, bug.clock], ["store", True, done + more])

    def test_what_is_met(self):
        # In the cycle 4 three rows retire: the first row that meets a point counts, then the first label.
        program = [("lim", 1, 1), ("lim", 2, 1), ("lim", 3, 1), HALT]
        for points, label in (([("a", ("register", 2)), ("b", ("register", 1))], "b"),
                              ([("z", ("register", 2)), ("b", ("at", 1)), ("c", ("register", 3))], "b"),
                              ([("z", ("register", 1)), ("y", ("at", 0)), ("a", ("at", 1))], "y"),
                              ([("a", ("cause", 1)), ("b", ("at", 2))], "b")):
            bug = bug_of(WIDE, *program)
            for name, point in points:
                bug.set_point(name, point)
            self.same([bug.run(100), bug.steps], [(5, label), 3])

    def test_ends_of_runs(self):
        for many, done in ((0, (0, None)), (1, (1, None)), (4, (4, None)), (5, (5, "five")), (6, (5, "five"))):
            bug = bug_of(WIDE, ("lim", 1, 5), HALT)
            bug.set_point("five", ("register", 1))
            self.same([bug.run(many), bug.clock], [done, done[0]])
        bug = bug_of(WIDE, ("lim", 1, 5), HALT)
        self.same([bug.run(100000), bug.halted, bug.run(100000)], [(6, None), True, (0, None)])

    def test_a_point_in_the_cycle_in_which_it_halts(self):
        bug = bug_of(WIDE, HALT)
        bug.set_point("end", ("at", 0))
        self.same([bug.run(100), bug.run(100)], [(3, "end"), (0, None)])

    def test_without_points(self):
        self.same(counting().run(50), (50, None))

    def test_run_to(self):
        for many in (0, 1, 3, 4, 5, 30):
            bug, core = counting(), counting().core()
            done = 0
            while core.steps < many:
                cycle(core)
                done += 1
            self.same([bug.run_to(many), bug.steps, bug.run_to(many)], [done, core.steps, 0])
        bug = bug_of(WIDE, ("lim", 1, 5), HALT)
        self.same([bug.run_to(100000), bug.steps, bug.run_to(100000)], [6, 2, 0])

    def test_run_to_heeds_no_points(self):
        bug = counting()
        bug.set_point("a", ("at", 1))
        bug.run_to(20)
        self.assertGreaterEqual(bug.steps, 20)

    def test_there_is_always_an_end(self):
        for seed in range(12):
            bug = Debugger(*world(seed))
            bound = most_cycles(bug.core().settings())
            for _ in range(30):
                before = bug.clock
                rows = bug.step()
                self.assertTrue(rows or bug.halted)
                self.assertLessEqual(bug.clock - before, bound)

    def test_runs_beside_rows_of_random_worlds(self):
        dice = random.Random(50)
        for seed in range(12):
            core = Core(*world(seed))
            rows = [cycle(core) for _ in range(200)]
            points = sorted((label, dice.choice([("at", dice.randrange(32, 90)), ("register", dice.randrange(8)),
                                                 ("place", 640 + dice.randrange(8)), ("cause", dice.randrange(1, 20))]))
                            for label in dice.sample("abcdefgh", 3))
            bug = Debugger(*world(seed))
            for label, point in points:
                bug.set_point(label, point)
            while bug.clock < 120 and not bug.halted:
                before = bug.clock
                done, label = bug.run(60)
                met = [[name for row in found for name, point in points if meets(point, row)] for found in rows]
                ends = [at for at in range(before, before + 60) if met[at]] + [before + 59]
                if not bug.halted:
                    self.same([done, label], [ends[0] + 1 - before, (met[ends[0]] or [None])[0]])


class Marks(Case):
    def test_going_back_again_and_again(self):
        bug = counting()
        bug.set_point("a", ("at", 3))
        bug.run_to(7)
        bug.mark("here")
        before = bug_told(bug)
        run_once = None
        for _ in range(3):
            bug.run(9)
            bug.cycle()
            bug.step()
            run_once = run_once or bug_told(bug)
            self.same(bug_told(bug), run_once)
            self.same([bug.back("here"), bug_told(bug)], [None, before])

    def test_points_and_marks_stay(self):
        bug = counting()
        bug.mark("one")
        bug.set_point("a", ("at", 3))
        bug.run_to(7)
        bug.mark("two")
        bug.back("one")
        self.same([bug.points(), bug.marks(), bug.clock], [[("a", ("at", 3))], ["one", "two"], 0])
        bug.drop_point("a")
        bug.back("two")
        self.same([bug.points(), bug.marks(), bug.steps >= 7], [[], ["one", "two"], True])

    def test_a_label_that_is_there(self):
        bug = counting()
        bug.mark("here")
        bug.run_to(5)
        bug.mark("here")
        clock = bug.clock
        bug.run_to(20)
        bug.back("here")
        self.same([bug.clock, bug.marks()], [clock, ["here"]])

    def test_eight_and_a_ninth(self):
        bug = counting()
        for label in "hgfedcba":
            self.same(bug.mark(label), None)
            bug.cycle()
        before = bug_told(bug)
        self.refused(TooMany, {"what": "marks", "limit": 8}, bug.mark, "i")
        self.refused(NoSuchLabel, {"label": "i"}, bug.back, "i")
        self.same([bug_told(bug), bug.marks()], [before, list("abcdefgh")])
        bug.mark("c")
        bug.back("h")
        self.same(bug.clock, 0)
        bug.back("c")
        self.same(bug.clock, 8)

    def test_whims_and_all_parts_are_kept(self):
        for seed in range(10):
            bug = Debugger(*world(seed))
            bug.run(90)
            bug.mark("here")
            bug.run(150)
            once = bug_told(bug)
            bug.back("here")
            bug.run(150)
            self.same(bug_told(bug), once)


class Apart(Case):
    def test_copies_go_on_by_themselves(self):
        bug = counting()
        bug.set_point("a", ("at", 3))
        bug.run(5)
        bug.mark("here")
        before, copied = bug_told(bug), bug.copy()
        self.assertIs(type(copied), Debugger)
        self.same(bug_told(copied), before)
        for change in (lambda one: one.run(20), lambda one: one.set_point("b", ("at", 2)),
                       lambda one: one.drop_point("a"), lambda one: one.mark("there"), lambda one: one.mark("here"),
                       lambda one: one.cycle()):
            changed = bug.copy()
            change(changed)
            self.same(bug_told(bug), before)
            changed.back("here")
        bug.run(30)
        bug.mark("here")
        self.same(bug_told(copied), before)
        copied.run(3)
        copied.back("here")
        self.same([copied.clock, bug.back("here"), bug.clock > copied.clock], [5, None, True])

    def test_what_is_returned_is_new(self):
        bug = counting()
        bug.set_point("a", ("at", 3))
        bug.mark("here")
        bug.run(9)
        before = bug_told(bug)
        run(bug.core(), 9, 9)
        steps(bug.beside(), 9, [])
        for one in (bug.rows(), bug.points(), bug.marks()):
            one.clear()
        bug.cycle().clear()
        bug.back("here")
        bug.run(9)
        self.same(bug_told(bug)[:5], before[:5])

    def test_it_goes_by_copies(self):
        memory, whims, inputs = memory_of([(0, words(("lim", 1, 1), HALT))]), Whims([1, 2]), [5]
        bug = Debugger(Settings([("twist", 1)]), whims, memory, inputs, ((0, 1),))
        memory.put(0, 0)
        inputs.append(4)
        bug.run(99)
        self.same([bug.agrees, bug.halted, whims.taken, bug.beside().devices().left()], [True, True, 0, [5]])

    def test_by_name(self):
        bug = Debugger(settings=Settings([]), whims=Whims([]), memory=Memory(), inputs=[], raises=[])
        self.same([bug.set_point(label="a", point=("at", 0)), bug.mark(label="a"), bug.run(cycles=9), bug.run_to(steps=0),
                   bug.back(label="a"), bug.drop_point(label="a")], [None, None, (9, None), 0, None, None])


class Refusals(Case):
    def test_the_constructor_as_core(self):
        one, other, third = Settings([]), Whims([]), Memory()
        self.refused_each(InvalidSettings, "value", NO_OBJECTS, lambda value: Debugger(value, other, third, [], []))
        self.refused_each(InvalidWhims, "value", NO_OBJECTS, lambda value: Debugger(one, value, third, [], []))
        self.refused_each(InvalidMemory, "value", NO_OBJECTS, lambda value: Debugger(one, other, value, [], []))
        self.refused_each(InvalidInputs, "value", NO_LISTS + [[word] for word in NO_WORDS] + [[0] * 41],
                          lambda value: Debugger(one, other, third, value, []))
        self.refused_each(InvalidRaises, "value", NO_LISTS + [[(0, 4)], [(100001, 0)], [[0, 0]], [(0, 0)] * 41],
                          lambda value: Debugger(one, other, third, [], value))
        self.refused_in_sequence(Debugger, (one, InvalidSettings, 1), (other, InvalidWhims, 1),
                                 (third, InvalidMemory, 1), ([], InvalidInputs, 1), ([], InvalidRaises, 1))

    def test_methods(self):
        bug = counting()
        bug.run(7)
        bug.mark("here")
        bug.set_point("here", ("at", 3))
        before = bug_told(bug)
        self.refused_each(InvalidLabel, "value", NO_LABELS, lambda value: bug.set_point(value, ("at", 1)))
        for call in (bug.drop_point, bug.mark, bug.back):
            self.refused_each(InvalidLabel, "value", NO_LABELS, call)
        for call in (bug.drop_point, bug.back):
            self.refused_each(NoSuchLabel, "label", ["a", "her", "heree", "abcdefgh"], call)
        self.refused_each(InvalidPoint, "value", NO_POINTS, lambda value: bug.set_point("a", value))
        self.refused_in_sequence(bug.set_point, ("a", InvalidLabel, ""), (("at", 1), InvalidPoint, None))
        self.refused_each(InvalidCycles, "value", NO_COUNTS + [100001, BIG], bug.run)
        self.refused_each(InvalidSteps, "value", NO_COUNTS + [100001, BIG], bug.run_to)
        self.same(bug_told(bug), before)


if __name__ == "__main__":
    unittest.main()
