"""Operations [1b1], instructions and their words [1b2], registers [1b4], sorts and worths [1b5]."""

import unittest

from kit import BIG, EDGES, NO_COUNTS, NO_INTEGERS, NO_STRINGS, NO_TUPLES, NO_WORDS, Case
from orderlycore.errors import DividedByNought, InvalidInstruction, InvalidOperation, InvalidWord
from orderlycore.instructions import (
    decoded, encoded, is_instruction, operations, reads_of, sort_of, worth_of, writes_of,
)

THREE = ["add", "sub", "mul", "div", "and", "or", "xor", "shl", "shr", "low", "eq"]
NAMES = THREE + ["addi", "ld", "st", "jr", "lim", "lhi", "bz", "bnz", "jal", "sys", "rdc", "wrc", "ret", "halt", "nop"]

# The word of each instruction, bit by bit.
WORDS = [
    (("add", 1, 2, 3), 0b00001_001_010_00011),
    (("sub", 7, 0, 7), 0b00010_111_000_00111),
    (("mul", 0, 7, 0), 0b00011_000_111_00000),
    (("div", 5, 4, 3), 0b00100_101_100_00011),
    (("and", 6, 5, 4), 0b00101_110_101_00100),
    (("or", 2, 2, 2), 0b00110_010_010_00010),
    (("xor", 3, 1, 6), 0b00111_011_001_00110),
    (("shl", 4, 6, 5), 0b01000_100_110_00101),
    (("shr", 1, 3, 1), 0b01001_001_011_00001),
    (("low", 0, 0, 0), 0b01010_000_000_00000),
    (("eq", 7, 7, 7), 0b01011_111_111_00111),
    (("addi", 1, 2, -3), 0b01100_001_010_11101),
    (("ld", 7, 7, 15), 0b01101_111_111_01111),
    (("st", 0, 0, -16), 0b01110_000_000_10000),
    (("jr", 3, 4, -1), 0b01111_011_100_11111),
    (("lim", 1, 255), 0b10000_001_11111111),
    (("lhi", 6, 0), 0b10001_110_00000000),
    (("bz", 4, -1), 0b10010_100_11111111),
    (("bnz", 2, 127), 0b10011_010_01111111),
    (("jal", 7, -128), 0b10100_111_10000000),
    (("sys", 3), 0b10101_000_00000011),
    (("rdc", 1, 7), 0b10110_001_00000111),
    (("wrc", 7, 0), 0b10111_111_00000000),
    (("ret",), 0b11000_000_00000000),
    (("halt",), 0b11001_000_00000000),
    (("nop",), 0b11010_000_00000000),
]

# One instruction of each form with its numbers at both ends, and one beyond.
BOUNDS = [
    (("addi", 0, 0), -16, 15),
    (("ld", 7, 7), -16, 15),
    (("st", 3, 4), -16, 15),
    (("jr", 0, 7), -16, 15),
    (("lim", 0), 0, 255),
    (("lhi", 7), 0, 255),
    (("bz", 0), -128, 127),
    (("bnz", 7), -128, 127),
    (("jal", 3), -128, 127),
    (("sys",), 0, 255),
    (("rdc", 0), 0, 7),
    (("wrc", 7), 0, 7),
]

NO_INSTRUCTIONS = NO_TUPLES + [
    (), ("",), ("add",), ("add", 1), ("add", 1, 2), ("add", 1, 2, 3, 4), ("ADD", 1, 2, 3), ("halt", 0), ("halt", None),
    ("nop", ()), ("ret", 1), ("sys",), ("sys", 1, 2), ("lim", 1), ("lim", 1, 2, 3), ("addi", 1, 2), ("bz", 1, 2, 3),
    ("rdc", 1), ("move", 1, 2), ("add", "1", 2, 3), ("add", "r1", 2, 3), (1,), (1, 1, 2, 3), (None,), (["halt"],),
    (("halt",),), ({},), ("halt\n",), ["halt"], ["add", 1, 2, 3], "halt", "add r1 r2 r3", 2371,
]


class Examples(Case):
    def test_words(self):
        self.same(
            [encoded(("add", 1, 2, 3)), encoded(("addi", 1, 2, -3)), encoded(("bz", 4, -1)), encoded(("sys", 3)),
             encoded(("halt",)), decoded(24925), decoded(2379), decoded(0), decoded(51201)],
            [2371, 24925, 38143, 43011, 51200, ("addi", 1, 2, -3), None, None, None],
        )

    def test_registers_and_sorts(self):
        self.same(
            [is_instruction(("add", 1, 2, 8)), is_instruction(("lim", 0, 255)), reads_of(("st", 3, 1, 0)),
             reads_of(("add", 1, 2, 2)), writes_of(("jal", 7, 10)), writes_of(("st", 3, 1, 0)),
             sort_of(("rdc", 1, 0)), sort_of(("nop",)), operations()[:3]],
            [False, True, [1, 3], [2], 7, None, "lone", "sum", ["add", "sub", "mul"]],
        )

    def test_worths(self):
        self.same(
            [worth_of("low", 3, 5), worth_of("sub", 0, 1), worth_of("lhi", 4660, 255), worth_of("shl", 1, 16),
             worth_of("shr", 65535, 15), worth_of("lim", 9, 7)],
            [1, 65535, 65332, 0, 1, 7],
        )


class Operations(Case):
    def test_names_in_their_sequence(self):
        self.same(operations(), NAMES)
        self.same([name for (name, *_), _ in WORDS], NAMES)

    def test_the_list_is_new(self):
        operations().clear()
        self.same(operations(), NAMES)


class Kinds(Case):
    def test_instructions(self):
        for instruction, _ in WORDS:
            self.assertIs(is_instruction(instruction), True)

    def test_no_instructions(self):
        for value in NO_INSTRUCTIONS:
            with self.subTest(value=value):
                self.assertIs(is_instruction(value), False)

    def test_registers(self):
        for instruction, _ in WORDS:
            # All parts are registers in form three; else the last part is a number.
            last = len(instruction) - (0 if instruction[0] in THREE else 1)
            for at in range(1, last):
                for which in range(8):
                    self.assertIs(is_instruction(instruction[:at] + (which,) + instruction[at + 1:]), True)
                for which in NO_COUNTS + [8, 9, BIG]:
                    self.assertIs(is_instruction(instruction[:at] + (which,) + instruction[at + 1:]), False)

    def test_numbers(self):
        for ahead, least, greatest in BOUNDS:
            for number in (least, least + 1, 0, greatest - 1, greatest):
                self.assertIs(is_instruction(ahead + (number,)), True)
            for number in NO_INTEGERS + [least - 1, greatest + 1, BIG, -BIG]:
                self.assertIs(is_instruction(ahead + (number,)), False)


class Words(Case):
    def test_all_operations_there_and_back(self):
        for instruction, word in WORDS:
            with self.subTest(instruction=instruction):
                self.same(encoded(instruction), word)
                self.same(decoded(word), instruction)

    def test_numbers_at_both_ends(self):
        for ahead, least, greatest in BOUNDS:
            for number in (least, -1, 0, 1, greatest):
                if number >= least:
                    word = encoded(ahead + (number,))
                    self.same(word % (32 if len(ahead) == 3 else 256), number % (32 if len(ahead) == 3 else 256))
                    self.same(decoded(word), ahead + (number,))

    def test_all_words(self):
        good = [word for word in range(65536) if decoded(word) is not None]
        self.assertEqual(len(good), 11 * 512 + 4 * 2048 + 2 * 2048 + 3 * 2048 + 256 + 2 * 64 + 3)
        for word in good:
            self.assertTrue(is_instruction(decoded(word)))
            self.assertEqual(encoded(decoded(word)), word)
        self.assertEqual(len({decoded(word) for word in good}), len(good))

    def test_bad_words_of_each_kind(self):
        bad = {
            "number 0": [0, 1, 2047], "number above 26": [27 << 11, 31 << 11, 65535],
            "c above 7": [2368 + 8, 2368 + 9, 2368 + 16, 2368 + 31],
            "k above 7": [(22 << 11) + 8, (22 << 11) + 128, (23 << 11) + 255],
            "unused bits of sys": [(21 << 11) + 256, (21 << 11) + 1024],
            "unused bits of bare ones": [
                (number << 11) + bit for number in (24, 25, 26) for bit in (1, 128, 256, 1024)
            ],
        }
        for kind, words in bad.items():
            for word in words:
                with self.subTest(kind=kind, word=word):
                    self.assertIsNone(decoded(word))
        self.same(decoded(2368 + 7), ("add", 1, 2, 7))


class Registers(Case):
    def test_reads(self):
        for name in THREE:
            self.same(reads_of((name, 1, 5, 2)), [2, 5])
            self.same(reads_of((name, 1, 0, 7)), [0, 7])
            self.same(reads_of((name, 4, 4, 4)), [4])
        for name in ("addi", "ld", "jr"):
            self.same(reads_of((name, 1, 6, 3)), [6])
        self.same([reads_of(("st", 6, 2, 3)), reads_of(("st", 2, 6, 3)), reads_of(("st", 6, 6, 3))],
                  [[2, 6], [2, 6], [6]])
        for name in ("lhi", "bz", "bnz", "wrc"):
            self.same(reads_of((name, 5, 3)), [5])
        for instruction in (("lim", 5, 3), ("jal", 5, 3), ("sys", 5), ("rdc", 5, 3), ("ret",), ("halt",), ("nop",)):
            self.same(reads_of(instruction), [])

    def test_writes(self):
        for name in THREE + ["addi", "ld", "jr"]:
            self.same(writes_of((name, 3, 5, 2)), 3)
            self.same(writes_of((name, 0, 5, 2)), 0)
        for name in ("lim", "lhi", "jal", "rdc"):
            self.same(writes_of((name, 6, 2)), 6)
        for instruction in (("st", 6, 2, 3), ("bz", 6, 2), ("bnz", 6, 2), ("wrc", 6, 2), ("sys", 6), ("ret",),
                            ("halt",), ("nop",)):
            self.same(writes_of(instruction), None)

    def test_the_list_is_new(self):
        told = reads_of(("add", 1, 2, 3))
        told.clear()
        self.same(reads_of(("add", 1, 2, 3)), [2, 3])


class Sorts(Case):
    def test_all_operations(self):
        sorts = {"mul": "times", "div": "over", "ld": "load", "st": "store", "bz": "branch", "bnz": "branch",
                 "jr": "jump", "jal": "jump", "sys": "lone", "rdc": "lone", "wrc": "lone", "ret": "lone",
                 "halt": "lone"}
        for instruction, _ in WORDS:
            self.same(sort_of(instruction), sorts.get(instruction[0], "sum"))


class Worths(Case):
    def test_all_pairs_of_edges(self):
        for x in EDGES:
            for y in EDGES:
                wanted = {
                    "add": x + y, "addi": x + y, "sub": x - y, "mul": x * y, "and": x & y, "or": x | y, "xor": x ^ y,
                    "shl": x * 2 ** y if y < 16 else 0, "shr": x // 2 ** y if y < 16 else 0, "low": int(x < y),
                    "eq": int(x == y), "lim": y, "lhi": y * 256 + x % 256,
                }
                if y > 0:
                    wanted["div"] = x // y
                for name, worth in wanted.items():
                    with self.subTest(name=name, x=x, y=y):
                        self.same(worth_of(name, x, y), worth % 65536)

    def test_by_nought_there_is_none(self):
        for x in EDGES:
            self.refused(DividedByNought, {}, worth_of, "div", x, 0)

    def test_by_name(self):
        self.same(worth_of(name="sub", one=3, other=5), 65534)


class Refusals(Case):
    def test_no_instructions(self):
        for call in (encoded, reads_of, writes_of, sort_of):
            self.refused_each(InvalidInstruction, "value", NO_INSTRUCTIONS, call)

    def test_no_words(self):
        self.refused_each(InvalidWord, "value", NO_WORDS, decoded)
        for name in THREE + ["addi", "lim", "lhi"]:
            self.refused_each(InvalidWord, "value", NO_WORDS, lambda value: worth_of(name, value, 1))
            self.refused_each(InvalidWord, "value", NO_WORDS, lambda value: worth_of(name, 1, value))

    def test_no_names_of_a_worth(self):
        wrong = NO_STRINGS + ["", "Add", "times", "over"]
        wrong += ["ld", "st", "jr", "bz", "bnz", "jal", "sys", "rdc", "wrc", "ret", "halt", "nop"]
        self.refused_each(InvalidOperation, "value", wrong, lambda value: worth_of(value, 1, 1))

    def test_sequence_of_the_parameters(self):
        self.refused(InvalidOperation, {"value": "ld"}, worth_of, "ld", "one", "other")
        self.refused(InvalidWord, {"value": "one"}, worth_of, "div", "one", 0)
        self.refused(InvalidWord, {"value": "one"}, worth_of, "div", "one", "other")
        self.refused(InvalidWord, {"value": "other"}, worth_of, "div", 1, "other")

    def test_arguments_by_name(self):
        self.same([encoded(instruction=("sys", 3)), decoded(word=43011), is_instruction(value=("sys", 3))],
                  [43011, ("sys", 3), True])
        self.same([reads_of(instruction=("ld", 1, 2, 3)), writes_of(instruction=("ld", 1, 2, 3)),
                   sort_of(instruction=("ld", 1, 2, 3))], [[2], 1, "load"])


if __name__ == "__main__":
    unittest.main()
