"""Commands [9b4]."""

import random
import unittest

from cores import WIDE
from kit import NO_OBJECTS, NO_STRINGS, Case
from test_debugger import bug_of, bug_told, counting
from worlds import set_word, world

from orderlycore.commands import answer, is_command, tried
from orderlycore.core import Core
from orderlycore.debugger import Debugger
from orderlycore.errors import (CommandFailed, InvalidCommand, InvalidCommands, InvalidCycles, InvalidDebugger,
                                InvalidPoint, InvalidSteps, InvalidStretch, NoSuchLabel, TooMany)
from orderlycore.memory import memory_of
from orderlycore.settings import Settings
from orderlycore.traces import trace
from orderlycore.whims import Whims

HALT = ("halt",)
BARE = ["cycle", "step", "points", "marks", "where", "agrees", "registers", "controls", "flight", "outputs"]
COMMANDS = BARE + ["run 0", "run 999999", "to 10", "at a 0", "at abcdefgh 999999", "register five 1", "place x 1023",
                   "cause z 31", "drop a", "mark abcdefgh", "back z", "memory 0 1", "memory 999999 999999",
                   "memory 0 0", "last 0", "last 999999"]
NO_COMMANDS = NO_STRINGS + ["", " ", "halt", "Cycle", "cycle ", " cycle", "cycle 1", "cycle\n", "step 3", "where\nwhere"]
NO_COMMANDS += ["run", "run ", "run  5", "run 5 ", "run 05", "run 00", "run -1", "run +1", "run 0x1", "run five", "run 1 2",
                "run 1000000", "run 5\n", "to", "to -", "last", "last x", "last 1000000", "at", "at 3", "at five", "at 3 five",
                "at five 03", "at five x", "at five -1", "at five 1000000", "at ninelette 3", "at Five 3", "at five5 3",
                "at  3", "at five  3", "at five 3 4", "register r1 2", "place five", "cause five", "drop", "drop ",
                "drop five 1", "drop ninelette", "mark", "mark 1", "mark Five", "back", "back a b", "memory", "memory 1",
                "memory 1 2 3", "memory a 1", "memory 1 b", "memory 0 01", "points 1", "marks all", "flight 1",
                "outputs 960", "registers 1", "go", "memory -1 1", "run\t5", "at\nfive 3"]


def after(made, *commands):
    """The answers of a debugger to commands, one behind the other."""
    return [answer(made, command) for command in commands]


class Examples(Case):
    def test_example(self):
        desk = Debugger(Settings([]), Whims([]), memory_of([(0, [33029, 51200])]), [], [])
        self.same(
            [is_command("at five 3"), is_command("at five x"),
             tried(desk, ["register five 1", "run 100", "where", "step", "where"]), answer(desk, "where")],
            [True, False, ["-", "13 five", "13 1 1 going", "1: halt", "14 2 2 halted"], "0 0 0 going"],
        )


class Commands(Case):
    def test_are(self):
        for command in COMMANDS:
            self.same(is_command(command), True)

    def test_are_none(self):
        for value in NO_COMMANDS + NO_OBJECTS:
            self.same(is_command(value), False)


class Answers(Case):
    def test_cycle_and_step(self):
        bug = counting()
        self.same(after(bug, "cycle", "cycle", "cycle", "cycle", "cycle", "cycle"),
                  ["-"] * 4 + ["0: lim r2 64 | r2 = 64, 1: addi r1 r1 1 | r1 = 1",
                               "2: st r1 r2 0 | 64 <- 1, 3: jal r3 -2 | r3 = 4, 1: addi r1 r1 1 | r1 = 2"])
        self.same(bug.clock, 6)
        bug = bug_of(WIDE, HALT)
        self.same(after(bug, "step", "step", "cycle", "where"), ["0: halt", "-", "-", "4 1 1 halted"])

    def test_run_and_to(self):
        bug = counting()
        self.same(after(bug, "run 3", "run 0", "place here 64", "run 100", "run 1", "to 9", "to 9", "to 0"),
                  ["3 -", "0 -", "-", "3 here", "1 here", "1", "0", "0"])
        bug = bug_of(WIDE, HALT)
        self.same(after(bug, "at end 0", "run 100000", "run 5", "to 100000"), ["-", "3 end", "0 -", "0"])

    def test_points(self):
        bug = counting()
        self.same(after(bug, "points", "at b 4095", "register a 7", "place zz 1023", "cause c 31", "points", "drop zz",
                        "points", "at a 0", "points"),
                  ["-"] * 5 + ["a register 7, b at 4095, c cause 31, zz place 1023", "-",
                               "a register 7, b at 4095, c cause 31", "-", "a at 0, b at 4095, c cause 31"])
        self.same(bug.points(), [("a", ("at", 0)), ("b", ("at", 4095)), ("c", ("cause", 31))])

    def test_marks(self):
        bug = counting()
        self.same(after(bug, "marks", "mark here", "run 9", "mark at", "marks", "back here", "where", "marks"),
                  ["-", "-", "9 -", "-", "at here", "-", "0 0 0 going", "at here"])

    def test_where_and_agrees(self):
        bug = counting()
        self.same(after(bug, "where", "run 7", "where", "agrees"), ["0 0 0 going", "7 -", "7 8 2 going", "yes"])
        bug._core.set_controls([1, 0, 0, 0, 0, 0, 0, 9])
        self.same(after(bug, "cycle", "agrees")[1], "no")

    def test_registers_and_controls(self):
        bug = bug_of(WIDE, ("lim", 1, 9), ("lim", 7, 255), ("wrc", 1, 6), HALT)
        self.same(after(bug, "registers", "controls", "to 4", "registers", "controls"),
                  ["0 0 0 0 0 0 0 0", "1 0 0 0 0 0 0 0", "8", "0 9 0 0 0 0 0 255", "1 0 0 0 0 0 9 0"])

    def test_memory(self):
        bug = bug_of(WIDE, ("lim", 1, 9), ("st", 1, 0, 15), HALT)
        self.same(after(bug, "memory 14 3", "to 3", "memory 14 3", "memory 15 1", "memory 0 3"),
                  ["0 0 0", "7", "0 9 0", "9", "33033 28943 51200"])
        self.same(after(bug, "memory 959 1", "memory 896 64"), ["0", " ".join(["0"] * 64)])

    def test_flight(self):
        bug = bug_of(WIDE + [("times", 8)], ("mul", 1, 1, 1), ("lim", 2, 3), ("addi", 1, 1, 1), HALT)
        self.same(after(bug, "flight", "run 5", "flight", "to 4", "flight"),
                  ["-", "5 -", "0 0 waits, 1 1 done, 2 2 waits", "9", "-"])

    def test_outputs(self):
        bug = bug_of(WIDE, *set_word(1, 960), ("st", 1, 1, 0), ("st", 2, 1, 0), HALT)
        self.same(after(bug, "outputs", "to 3", "outputs", "to 9", "outputs"), ["-", "7", "960 0", "1", "960 0"])

    def test_last(self):
        bug = counting()
        bug.run_to(5)
        rows = ["0: lim r2 64 | r2 = 64", "1: addi r1 r1 1 | r1 = 1", "2: st r1 r2 0 | 64 <- 1", "3: jal r3 -2 | r3 = 4",
                "1: addi r1 r1 1 | r1 = 2"]
        self.same(bug.steps, 5)
        self.same(after(bug, "last 0", "last 1", "last 2", "last 5", "last 6", "last 100000"),
                  ["-", rows[4], ", ".join(rows[3:]), ", ".join(rows), ", ".join(rows), ", ".join(rows)])
        self.same(after(counting(), "last 5", "last 0"), ["-", "-"])

    def test_beside_the_methods(self):
        dice = random.Random(60)
        listed = {
            "cycle": lambda one: trace(one.cycle()), "step": lambda one: trace(one.step()),
            "points": lambda one: [f"{name} {word} {count}" for name, (word, count) in one.points()],
            "flight": lambda one: [f"{row[0]} {row[1]} {'done' if row[3] else 'waits'}"
                                   for row in one.core().in_flight()],
        }
        spaced = {"marks": lambda one: one.marks(), "registers": lambda one: one.core().registers(),
                  "controls": lambda one: one.core().controls(), "outputs": lambda one: one.core().devices().outputs(),
                  "where": lambda one: [one.clock, one.steps, one.home, "halted" if one.halted else "going"]}
        for seed in range(10):
            bug = Debugger(*world(seed))
            bug.set_point("code", ("at", 70))
            for _ in range(60):
                beside = bug.copy()
                command = dice.choice(sorted(listed) + sorted(spaced) + ["run", "to", "last", "memory"])
                if command in listed:
                    wanted = ", ".join(listed[command](beside)) or "-"
                elif command in spaced:
                    wanted = " ".join(str(one) for one in spaced[command](beside)) or "-"
                else:
                    number = dice.randrange(1, 30)
                    if command == "run":
                        done, label = beside.run(number)
                        wanted = f"{done} {label or '-'}"
                    elif command == "to":
                        wanted = str(beside.run_to(number))
                    elif command == "last":
                        wanted = ", ".join(trace(beside.rows()[-number:])) or "-"
                    else:
                        memory = beside.core().memory()
                        wanted = " ".join(str(memory.word(600 + at)) for at in range(number))
                        number = f"600 {number}"
                    command = f"{command} {number}"
                self.same(answer(bug, command), wanted)
                self.same((bug.clock, bug.steps, bug.points()), (beside.clock, beside.steps, beside.points()))
            self.same(bug_told(bug), bug_told(beside))

    def test_by_name(self):
        self.same([answer(debugger=counting(), command="where"), tried(debugger=counting(), commands=("where",)),
                   is_command(value="where")], ["0 0 0 going", ["0 0 0 going"], True])


class Failing(Case):
    def test_errors_of_answers(self):
        bug = counting()
        bug.run(8)
        bug.mark("here")
        bug.set_point("one", ("at", 1))
        before = bug_told(bug)
        cases = [
            ("run 100001", InvalidCycles, {"value": 100001}), ("to 999999", InvalidSteps, {"value": 999999}),
            ("last 100001", InvalidSteps, {"value": 100001}), ("at a 4096", InvalidPoint, {"value": ("at", 4096)}),
            ("register a 8", InvalidPoint, {"value": ("register", 8)}),
            ("place a 1024", InvalidPoint, {"value": ("place", 1024)}),
            ("cause a 0", InvalidPoint, {"value": ("cause", 0)}), ("cause a 32", InvalidPoint, {"value": ("cause", 32)}),
            ("drop here", NoSuchLabel, {"label": "here"}), ("back one", NoSuchLabel, {"label": "one"}),
            ("memory 960 1", InvalidStretch, {"value": (960, 1)}), ("memory 959 2", InvalidStretch, {"value": (959, 2)}),
            ("memory 0 0", InvalidStretch, {"value": (0, 0)}), ("memory 0 65", InvalidStretch, {"value": (0, 65)}),
            ("memory 897 64", InvalidStretch, {"value": (897, 64)}), ("memory 999999 1", InvalidStretch,
                                                                      {"value": (999999, 1)}),
        ]
        for command, error, told_value in cases:
            with self.subTest(command=command):
                self.refused(error, told_value, answer, bug, command)
                with self.assertRaises(CommandFailed) as caught:
                    tried(bug, ["where", command, "where"])
                self.assertEqual(caught.exception.position, 1)
                self.assertIs(type(caught.exception.__cause__), error)
                self.refused(CommandFailed, {"position": 0}, tried, bug, [command])
        self.same(bug_told(bug), before)

    def test_a_ninth_point_and_mark(self):
        bug = counting()
        for label in "abcdefgh":
            after(bug, f"at {label} 1", f"mark {label}")
        before = bug_told(bug)
        self.refused(TooMany, {"what": "points", "limit": 8}, answer, bug, "at i 1")
        self.refused(TooMany, {"what": "marks", "limit": 8}, answer, bug, "mark i")
        self.refused(InvalidPoint, {"value": ("at", 4096)}, answer, bug, "at i 4096")
        with self.assertRaises(CommandFailed) as caught:
            tried(bug, ["drop a", "at i 1", "at a 1"])
        self.same([caught.exception.position, type(caught.exception.__cause__)], [2, TooMany])
        self.same(bug_told(bug), before)


class Tried(Case):
    def test_on_a_copy(self):
        bug = counting()
        bug.run(5)
        bug.mark("here")
        before = bug_told(bug)
        commands = ["run 20", "at a 1", "mark there", "back here", "where", "drop a", "mark here", "points", "marks"]
        answers = tried(bug, commands)
        self.same(bug_told(bug), before)
        self.same(answers, after(bug.copy(), *commands))
        self.same([tried(bug, commands), tried(bug, tuple(commands)), commands[0]], [answers, answers, "run 20"])
        self.same([tried(bug, []), len(tried(bug, ["cycle"] * 60))], [[], 60])

    def test_what_one_does_counts_for_the_next(self):
        bug = counting()
        with self.assertRaises(CommandFailed) as caught:
            tried(bug, ["mark a", "back a", "back b", "drop z"])
        self.same([caught.exception.position, caught.exception.__cause__.label], [2, "b"])


class Refusals(Case):
    def test_answer(self):
        bug = counting()
        before = bug_told(bug)
        self.refused_each(InvalidDebugger, "value", NO_OBJECTS + [Debugger, bug.core()], lambda value: answer(value, "where"))
        self.refused_each(InvalidCommand, "value", NO_COMMANDS, lambda value: answer(bug, value))
        self.refused_in_sequence(answer, (bug, InvalidDebugger, None), ("where", InvalidCommand, "here"))
        self.same(bug_told(bug), before)

    def test_tried(self):
        bug = counting()
        before = bug_told(bug)
        self.refused_each(InvalidDebugger, "value", NO_OBJECTS + [Debugger, Core], lambda value: tried(value, []))
        wrong = [value for value in NO_OBJECTS if value not in ([], ())] + [["where", value] for value in NO_COMMANDS]
        wrong += [["where"] * 61, ("where", None), "where"]
        self.refused_each(InvalidCommands, "value", wrong, lambda value: tried(bug, value))
        self.refused_in_sequence(tried, (bug, InvalidDebugger, None), ([], InvalidCommands, None))
        # All of them are looked at ahead of what the first one does.
        self.refused(InvalidCommands, {"value": ["back no", "x"]}, tried, bug, ["back no", "x"])
        self.same(bug_told(bug), before)


if __name__ == "__main__":
    unittest.main()
