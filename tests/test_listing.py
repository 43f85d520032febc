"""The texts of instructions [1b6]."""

import unittest

from kit import NO_STRINGS, NO_TUPLES, Case
from orderlycore.errors import InvalidInstruction, InvalidListing
from orderlycore.instructions import decoded
from orderlycore.listing import instruction_of, text_of

TEXTS = [
    (("add", 1, 2, 3), "add r1 r2 r3"), (("sub", 7, 0, 7), "sub r7 r0 r7"), (("mul", 0, 0, 0), "mul r0 r0 r0"),
    (("div", 5, 4, 3), "div r5 r4 r3"), (("and", 6, 5, 4), "and r6 r5 r4"), (("or", 2, 2, 2), "or r2 r2 r2"),
    (("xor", 3, 1, 6), "xor r3 r1 r6"), (("shl", 4, 6, 5), "shl r4 r6 r5"), (("shr", 1, 3, 1), "shr r1 r3 r1"),
    (("low", 0, 1, 2), "low r0 r1 r2"), (("eq", 7, 6, 5), "eq r7 r6 r5"), (("addi", 1, 2, -3), "addi r1 r2 -3"),
    (("ld", 7, 7, 15), "ld r7 r7 15"), (("st", 3, 1, -2), "st r3 r1 -2"), (("jr", 3, 4, 0), "jr r3 r4 0"),
    (("lim", 1, 255), "lim r1 255"), (("lhi", 6, 0), "lhi r6 0"), (("bz", 0, 5), "bz r0 5"),
    (("bnz", 2, -128), "bnz r2 -128"), (("jal", 7, 127), "jal r7 127"), (("sys", 7), "sys 7"),
    (("rdc", 2, 0), "rdc r2 0"), (("wrc", 2, 5), "wrc r2 5"), (("ret",), "ret"), (("halt",), "halt"), (("nop",), "nop"),
]

NO_TEXTS = [
    "", " ", "halt ", " halt", "halt\n", "HALT", "Halt", "halt 0", "nop nop", "move r1 r2", "sys", "sys 7 7", "sys 07",
    "sys -0", "sys -1", "sys 256", "sys r1", "sys 0x7", "sys +7", "sys  7", "sys 7 ", "sys 1000000", "sys seven",
    "add r1 r2", "add r1 r2 3", "add 1 2 3", "add r1 r2 r8", "add r1 r2 r-1", "add r1 r2 r03", "add r1 r2 R3",
    "add r1, r2, r3", "add r1  r2 r3", "add r1 r2 r3 ", "add r1 r2 r3 r4", "add\nr1 r2 r3", "addr1 r2 r3",
    "addi r1 r2 r3", "addi r1 r2 16", "addi r1 r2 -17", "addi r1 r2 --3", "addi r1 r2 - 3", "addi r1 r2 -03",
    "bz r0", "bz 0 5", "bz r0 128", "bz r0 -129", "bz r0 loop", "lim r1 -1", "lim r1 256", "rdc r2 8", "rdc r2 -1",
    "rdc r2 r0", "nop ; nothing", "x: nop", ".word 3", "9" * 400, "sys " + "9" * 400, "nop " * 200,
]


class Examples(Case):
    def test_example(self):
        self.same(
            [text_of(("addi", 1, 2, -3)), text_of(("sys", 7)), instruction_of("bz r0 5"), instruction_of("halt"),
             instruction_of(text_of(("wrc", 2, 5)))],
            ["addi r1 r2 -3", "sys 7", ("bz", 0, 5), ("halt",), ("wrc", 2, 5)],
        )


class Texts(Case):
    def test_all_operations_there_and_back(self):
        for instruction, text in TEXTS:
            self.same(text_of(instruction), text)
            self.same(instruction_of(text), instruction)

    def test_all_instructions_there_and_back(self):
        texts = set()
        for word in range(65536):
            instruction = decoded(word)
            if instruction is not None:
                text = text_of(instruction)
                self.assertEqual(instruction_of(text), instruction)
                texts.add(text)
        self.assertEqual(len(texts), 24451)

    def test_arguments_by_name(self):
        self.same([text_of(instruction=("sys", 7)), instruction_of(text="sys 7")], ["sys 7", ("sys", 7)])


class Refusals(Case):
    def test_no_instructions(self):
        wrong = NO_TUPLES + [(), ("halt", 0), ("add", 1, 2, 8), ("addi", 1, 2, 16), ("add", True, 2, 3), ["halt"]]
        self.refused_each(InvalidInstruction, "value", wrong, text_of)

    def test_no_texts(self):
        self.refused_each(InvalidListing, "value", NO_STRINGS + [("halt",), ["halt"]] + NO_TEXTS, instruction_of)


if __name__ == "__main__":
    unittest.main()
