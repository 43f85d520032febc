"""Written forms and reading them [9b1], [9b2]."""

import random
import unittest

from cores import NONE
from kit import BIG, NO_ADDRESSES, NO_COUNTS, NO_LINES, NO_LISTS, NO_OBJECTS, NO_STRINGS, NO_TUPLES, NO_WORDS, Case
from test_points import NO_ROWS
from worlds import BOUNDS, GREATEST, LEAST, some_settings, world

from orderlycore.core import Core
from orderlycore.cycles import run
from orderlycore.errors import InvalidSort, InvalidText, InvalidValue
from orderlycore.meanings import meaning
from orderlycore.memory import memory_of
from orderlycore.settings import Settings
from orderlycore.states import State, snapshot
from orderlycore.texts import is_of_sort, read, sorts, written
from orderlycore.whims import Whims

SORTS = ["settings", "whims", "raises", "inputs", "rows", "snapshot"]
FIVE = (0, 33029, 0, 1, 5, None, None)
FULL_ROW = (4095, 65535, 31, 7, 65535, 1023, 65535)
LEAST_SNAPSHOT = ([0] * 8, 0, [0] * 8, False, 0, [], ([], [], 0, 0, []))
GREATEST_SNAPSHOT = ([65535] * 8, 4095, [65535] * 8, True, 999999, [(place, 65535) for place in range(960)],
                     ([65535] * 40, [65535] * 90, 999999, 65535, [0, 1, 2, 3]))
SNAPSHOT = ([0, 1, 2, 3, 4, 5, 6, 7], 9, [1] * 8, False, 10, [(3, 7), (5, 8), (6, 9), (959, 1)],
            ([5], [6, 7], 11, 12, [0, 3]))
SNAPSHOT_TEXT = ("snapshot 9 10 going\nregisters 0 1 2 3 4 5 6 7\ncontrols 1 1 1 1 1 1 1 1\nmemory 3 7\nmemory 5 8 9\n"
                 "memory 959 1\nleft 5\noutputs 6 7\ndevices 11 12 0 3\n")
VALUES = [
    ("whims", []), ("whims", [0]), ("whims", [1000000] * 200), ("whims", [3, 0, 99]),
    ("raises", []), ("raises", [(0, 0), (100000, 3)] * 20), ("raises", [(2, 3), (2, 3), (1, 0)]),
    ("inputs", []), ("inputs", [0, 65535] * 20), ("inputs", [7]),
    ("rows", []), ("rows", [FULL_ROW] * 200), ("rows", [FIVE, (5, None, 17) + NONE, (0, 0, 0, 0, 0, 0, 0)]),
    ("snapshot", LEAST_SNAPSHOT), ("snapshot", GREATEST_SNAPSHOT), ("snapshot", SNAPSHOT),
]


def replaced(value, at, part):
    return value[:at] + (part,) + value[at + 1:]


class Examples(Case):
    def test_example(self):
        self.same(
            [written("whims", (3, 0)), written("raises", [(2, 3)]), written("rows", [FIVE]),
             is_of_sort("inputs", [65536]), len(written("settings", Settings([])).split("\n"))],
            ["whims 3 0\n", "raises\nraise 2 3\n", "rows\nrow 0 33029 0 1 5 - -\n", False, 26],
        )
        self.same(
            [read("inputs\n"), read("rows\nrow 5 - 17 - - - -\n"),
             written("snapshot", snapshot(State(memory_of([(3, [7, 0, 8, 9])]), [5])))],
            [("inputs", []), ("rows", [(5, None, 17, None, None, None, None)]),
             "snapshot 0 0 going\nregisters 0 0 0 0 0 0 0 0\ncontrols 1 0 0 0 0 0 0 0\nmemory 3 7\nmemory 5 8 9\nleft 5\n"
             "outputs\ndevices 0 0\n"],
        )


class Sorts(Case):
    def test_words(self):
        self.same(sorts(), SORTS)
        sorts().clear()
        self.same(sorts(), SORTS)

    def test_values_are_of_their_sort(self):
        for sort, value in VALUES + [("settings", Settings([]))]:
            self.same(is_of_sort(sort, value), True)

    def test_values_that_are_of_several_sorts_or_of_one_alone(self):
        cases = [([], SORTS[1:5]), ([7], ["whims", "inputs"]), ([65536], ["whims"]), ([0] * 41, ["whims"]),
                 ([(2, 3)], ["raises"]), ([FIVE], ["rows"]), (SNAPSHOT, ["snapshot"]), (Settings([]), ["settings"])]
        for value, wanted in cases:
            self.same([sort for sort in SORTS if is_of_sort(sort, value)], wanted)

    def test_tuples_where_lists_are_wanted(self):
        for sort, value in (("whims", (3, 0)), ("raises", ((2, 3),)), ("inputs", (7,)), ("rows", (FIVE,))):
            self.same([is_of_sort(sort, value), written(sort, value)], [True, written(sort, list(value))])
        told = tuple(tuple(part) if isinstance(part, list) else part for part in SNAPSHOT[:6])
        told += (tuple(tuple(part) if isinstance(part, list) else part for part in SNAPSHOT[6]),)
        self.same([is_of_sort("snapshot", told), written("snapshot", told)], [True, SNAPSHOT_TEXT])

    def test_others(self):
        cases = {
            "settings": NO_OBJECTS + [Settings, Settings([]).told(), Whims([])],
            "whims": NO_LISTS + [[value] for value in NO_COUNTS + [1000001, BIG]] + [[0] * 201, Whims([])],
            "raises": NO_LISTS + [[value] for value in NO_TUPLES + [(), (1,), (1, 2, 3)]] + [[(0, 0)] * 41]
            + [[(value, 0)] for value in NO_COUNTS + [100001]] + [[(0, value)] for value in NO_LINES],
            "inputs": NO_LISTS + [[value] for value in NO_WORDS] + [[0] * 41],
            "rows": NO_LISTS + [[FIVE, value] for value in NO_ROWS] + [[FIVE] * 201, FIVE],
            "snapshot": NO_TUPLES + [SNAPSHOT[:6], SNAPSHOT + (1,), list(SNAPSHOT), ()],
        }
        for sort, values in cases.items():
            for value in values:
                with self.subTest(sort=sort, value=value):
                    self.same(is_of_sort(sort, value), False)
                    self.refused(InvalidValue, {"value": value}, written, sort, value)

    def test_snapshots_with_one_part_bent(self):
        eight = NO_LISTS + [[], [0] * 7, [0] * 9] + [[0] * 7 + [value] for value in NO_WORDS]
        memory = NO_LISTS + [[value] for value in NO_TUPLES + [(), (1,), (1, 2, 3), [1, 2]]] + [
            [(3, 0)], [(960, 1)], [(-1, 1)], [(3, 65536)], [(True, 1)], [(3, True)], [(3, 1), (3, 2)], [(4, 1), (3, 1)]]
        steps = NO_COUNTS + [1000000, BIG]
        for at, values in enumerate([eight, NO_ADDRESSES, eight, [0, 1, None, "going", "halted"], steps, memory,
                                     NO_TUPLES + [(), SNAPSHOT[6][:4], list(SNAPSHOT[6])]]):
            for value in values:
                self.same(is_of_sort("snapshot", replaced(SNAPSHOT, at, value)), False)
        words = NO_LISTS + [[value] for value in NO_WORDS]
        lines = NO_LISTS + [[value] for value in NO_LINES] + [[0, 0], [3, 2], [0, 2, 1]]
        for at, values in enumerate([words + [[0] * 41], words, steps, NO_WORDS, lines]):
            for value in values:
                self.same(is_of_sort("snapshot", replaced(SNAPSHOT, 6, replaced(SNAPSHOT[6], at, value))), False)


class Written(Case):
    def test_settings(self):
        for told in ([], LEAST, GREATEST, [("line", 8), ("whim", 3)]):
            settings = Settings(told)
            lines = ["settings"] + [f"set {name} {count}" for name, count in settings.told()]
            self.same(written("settings", settings), "".join(line + "\n" for line in lines))

    def test_lists(self):
        self.same(written("whims", [1000000, 0, 7]), "whims 1000000 0 7\n")
        self.same(written("inputs", [65535, 0]), "inputs 65535 0\n")
        self.same(written("raises", [(100000, 3), (0, 0)]), "raises\nraise 100000 3\nraise 0 0\n")
        self.same(written("rows", [FULL_ROW, (0, None, 0) + NONE]),
                  "rows\nrow 4095 65535 31 7 65535 1023 65535\nrow 0 - 0 - - - -\n")
        self.same([written(sort, []) for sort in ("whims", "raises", "inputs", "rows")],
                  ["whims\n", "raises\n", "inputs\n", "rows\n"])

    def test_snapshots(self):
        self.same(written("snapshot", SNAPSHOT), SNAPSHOT_TEXT)
        self.same(written("snapshot", LEAST_SNAPSHOT),
                  "snapshot 0 0 going\nregisters 0 0 0 0 0 0 0 0\ncontrols 0 0 0 0 0 0 0 0\nleft\noutputs\ndevices 0 0\n")
        lines = written("snapshot", GREATEST_SNAPSHOT).split("\n")
        self.same([lines[0], lines[3][:20], len(lines), lines[6]],
                  ["snapshot 4095 999999 halted", "memory 0 65535 65535", 8, "devices 999999 65535 0 1 2 3"])

    def test_stretches_as_long_as_can_be(self):
        for places, told in (([0, 1, 2], ["0 1 1 1"]), ([0, 2, 4], ["0 1", "2 1", "4 1"]), ([958, 959], ["958 1 1"]),
                             ([5, 6, 9, 10, 11], ["5 1 1", "9 1 1 1"])):
            text = written("snapshot", replaced(SNAPSHOT, 5, [(place, 1) for place in places]))
            self.same([line[7:] for line in text.split("\n") if line.startswith("memory")], told)

    def test_nothing_is_changed(self):
        for sort, value in VALUES:
            before = repr(value)
            written(sort, value)
            self.assertEqual(repr(value), before)

    def test_by_name(self):
        self.same([written(sort="whims", value=[1]), is_of_sort(sort="whims", value=[1]), read(text="whims 1\n")],
                  ["whims 1\n", True, ("whims", [1])])


class ThereAndBack(Case):
    def test_values(self):
        for sort, value in VALUES:
            text = written(sort, value)
            self.same(read(text), (sort, value))
            self.same(written(*read(text)), text)

    def test_settings(self):
        dice = random.Random(70)
        for told in [[], LEAST, GREATEST] + [some_settings(dice) for _ in range(30)]:
            settings = Settings(told)
            sort, value = read(written("settings", settings))
            self.same([sort, type(value), value == settings], ["settings", Settings, True])

    def test_snapshots_and_rows_of_random_runs(self):
        for seed in range(12):
            core = Core(*world(seed))
            rows = run(core, 250, 150)[:200]
            told = snapshot(meaning(core))
            self.same(read(written("snapshot", told)), ("snapshot", told))
            self.same(read(written("rows", rows)), ("rows", rows))

    def test_what_is_read_is_new(self):
        text = written("rows", [FIVE])
        read(text)[1].clear()
        self.same(read(text), ("rows", [FIVE]))


def wrong_line(case, text, line):
    with case.subTest(text=text):
        case.refused(InvalidText, {"line": line}, read, text)


class WrongLines(Case):
    def test_no_strings(self):
        for value in NO_STRINGS:
            self.refused(InvalidText, {"line": 0}, read, value)

    def test_first_lines(self):
        for text in ("", "\n", "\n\n", " ", " \n", "setting\n", "Whims 1\n", "whims", "whims 1", " whims 1\n", "whims  1\n",
                     "whims 1 \n", "whims\t1\n", "rows 1\n", "raises 1\n", "rows \n", "settings 1\n", "snapshot\n",
                     "raise 1 2\n", "row 0 33029 0 1 5 - -\n", "set buffer 4\n", "image\n", "inputs 1,2\n", "inputs -\n"):
            wrong_line(self, text, 1)

    def test_counts(self):
        for word in ("01", "00", "-1", "+1", "1_0", "0x1", "x", "-", "1.0", "65536", "99999999", "9" * 400):
            wrong_line(self, f"inputs 3 {word}\n", 1)
            wrong_line(self, f"rows\nrow {word} 33029 0 1 5 - -\n", 2)
            wrong_line(self, f"raises\nraise 1 {word}\n", 2)
        wrong_line(self, "whims 1000001\n", 1)
        wrong_line(self, "whims" + " 1" * 201 + "\n", 1)
        wrong_line(self, "inputs" + " 1" * 41 + "\n", 1)

    def test_raises_and_rows(self):
        for line in ("raise 100001 0", "raise 0 4", "raise 1", "raise 1 2 3", "raise", "", "row 1 2", "raise 1  2",
                     "raise 1 2 ", " raise 1 2"):
            wrong_line(self, f"raises\nraise 5 1\n{line}\n", 3)
            wrong_line(self, f"raises\nraise 5 1\n{line}\nraise 5 1\n", 3)
        wrong_line(self, "raises\n" + "raise 0 0\n" * 41, 42)
        for line in ("row 4096 33029 0 1 5 - -", "row 0 65536 0 1 5 - -", "row 0 33029 32 1 5 - -", "row 0 1 0 1 - - -",
                     "row 0 1 0 - 1 - -", "row 0 1 0 8 1 - -", "row 0 1 0 - - 1 -", "row 0 1 0 - - - 1",
                     "row 0 1 0 - - 1024 1", "row 0 1 0 - - -", "row 0 1 0 - - - - -", "row", "", "rows",
                     "row - 1 0 - - - -", "row 0 1 - - - - -", "row 0 1 0 -- - - -"):
            wrong_line(self, f"rows\nrow 0 33029 0 1 5 - -\n{line}\n", 3)
        wrong_line(self, "rows\n" + "row 0 1 0 - - - -\n" * 201, 202)

    def test_settings(self):
        lines = written("settings", Settings([])).split("\n")[:-1]
        for at, (name, count) in enumerate(Settings([]).told(), start=1):
            least, greatest = BOUNDS[name]
            wrong = [f"set {name} {greatest + 1}", f"set {name}", f"set {name} {count} 1", f"set {name} 0{count}",
                     f"set {name} -1", f"set {name}  {count}", f"set x{name} {count}", f"put {name} {count}", "",
                     f"set {count} {name}", f"set {name} -"]
            wrong += [f"set {name} {least - 1}"] if least else []
            for line in wrong:
                wrong_line(self, "".join(one + "\n" for one in lines[:at] + [line] + lines[at + 1:]), at + 1)
            # Left out, twice, and cut off.
            wrong_line(self, "".join(one + "\n" for one in lines[:at] + lines[at + 1:]), at + 1)
            wrong_line(self, "".join(one + "\n" for one in lines[:at + 1] + lines[at:]), at + 2)
            wrong_line(self, "".join(one + "\n" for one in lines[:at]), at + 1)
        wrong_line(self, "".join(one + "\n" for one in lines).replace("set line 4", "set line 3"), 6)
        self.same(lines[5], "set line 4")

    def test_behind_a_form(self):
        for sort, value in VALUES + [("settings", Settings([]))]:
            text = written(sort, value)
            lines = text.count("\n")
            for more in ("\n", "x\n", "x", " ", "whims 1\n", "memory 3 4\n"):
                wrong_line(self, text + more, lines + 1)
            wrong_line(self, text[:-1], lines)
            wrong_line(self, text.replace("\n", "\n\n", 1), 2)
            wrong_line(self, text.replace("\n", " \n", 1), 1)

    def test_a_wrong_line_ahead_of_one_without_a_line_feed(self):
        wrong_line(self, "raises\nraise 1\nraise 1 2", 2)
        wrong_line(self, "raises\nraise 1 2\nraise 1 2", 3)
        wrong_line(self, "raises\nraise 1 2\nraise", 3)

    def test_snapshot_lines(self):
        lines = SNAPSHOT_TEXT.split("\n")[:-1]
        wrong = {
            0: ["snapshot 9 10", "snapshot 9 10 going 1", "snapshot 4096 10 going", "snapshot 9 1000000 going",
                "snapshot 9 10 goes", "snapshot 9 going 10", "snapshot 9 10 1", "snapshot 9 - going"],
            1: ["registers 0 1 2 3 4 5 6", "registers 0 1 2 3 4 5 6 7 8", "registers 0 1 2 3 4 5 6 65536", "registers",
                "controls 0 1 2 3 4 5 6 7", "registers 0 1 2 3 4 5 6 -"],
            2: ["controls 1 1 1 1 1 1 1", "registers 1 1 1 1 1 1 1 1", "memory 0 1", "controls 1 1 1 1 1 1 1 x"],
            3: ["memory 3", "memory", "memory 3 0", "memory 3 7 0", "memory 3 65536", "memory 960 1", "memory - 1",
                "memory 3 -", "memory 03 7", "Memory 3 7"],
            4: ["memory 4 8 9", "memory 3 8 9", "memory 2 8", "memory 5 8 0 9", "memory 0 1"],
            5: ["memory 7 1", "memory 6 1", "memory 959 1 1", "memory 5 1", "memory 960 1"],
            6: ["left 65536", "left" + " 1" * 41, "outputs 5", "left -", "lefts 5"],
            7: ["outputs 65536", "left 5", "outputs -", "output 6"],
            8: ["devices 11", "devices", "devices 1000000 12", "devices 11 65536", "devices 11 12 4", "devices 11 12 0 0",
                "devices 11 12 3 0", "devices 11 12 -", "devices - 12"],
        }
        for at, others in wrong.items():
            for line in others:
                wrong_line(self, "".join(one + "\n" for one in lines[:at] + [line] + lines[at + 1:]), at + 1)
        for at in (0, 1, 2, 6, 7, 8):
            wrong_line(self, "".join(one + "\n" for one in lines[:at] + lines[at + 1:]), at + 1)
        for at in range(9):
            wrong_line(self, "".join(one + "\n" for one in lines[:at + 1] + lines[at:]), at + 2)
            wrong_line(self, "".join(one + "\n" for one in lines[:at]), at + 1)
            wrong_line(self, "".join(one + "\n" for one in lines[:at]) + lines[at], at + 1)

    def test_stretches_that_may_be_left_out(self):
        lines = SNAPSHOT_TEXT.split("\n")
        for at in (3, 4, 5):
            _, value = read("\n".join(lines[:at] + lines[at + 1:]))
            self.same(value[5], [row for row in SNAPSHOT[5] if row[0] not in ((3,), (5, 6), (959,))[at - 3]])

    def test_lines_bent_by_chance(self):
        dice = random.Random(71)
        for sort, value in VALUES:
            lines = written(sort, value).split("\n")[:-1]
            for _ in range(40):
                at = dice.randrange(len(lines))
                parts = lines[at].split(" ")
                part = dice.randrange(len(parts))
                parts[part] = dice.choice(["", "x" + parts[part], parts[part] + "!", "0" + parts[part], "#"])
                bent = lines[:at] + [" ".join(parts)] + lines[at + 1:]
                wrong_line(self, "".join(line + "\n" for line in bent), at + 1)


class Refusals(Case):
    def test_sorts(self):
        wrong = NO_STRINGS + ["", "Whims", "whim", "setting", "snapshots", "whims ", "all"]
        self.refused_each(InvalidSort, "value", wrong, lambda value: is_of_sort(value, []))
        self.refused_each(InvalidSort, "value", wrong, lambda value: written(value, []))
        self.refused_in_sequence(written, ("whims", InvalidSort, "x"), ([], InvalidValue, None))


if __name__ == "__main__":
    unittest.main()
