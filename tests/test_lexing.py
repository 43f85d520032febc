"""Lines, comments, words, names, labels [21] and numbers [22]."""

import unittest

from kit import NO_STRINGS, Case
from orderlycore.errors import BadText
from orderlycore.lexing import count_in, is_label, number_in, parted

LETTERS = "abcdefghijklmnopqrstuvwxyz"
DIGITS = "0123456789"


class Examples(Case):
    def test_names_and_numbers(self):
        self.same(
            [is_label("loop_1"), is_label("r3"), is_label("r8"), number_in("-0x1"), number_in("0x1f"),
            number_in("-07")],
            [True, False, True, None, 31, -7],
        )

    def test_lines(self):
        self.same(
            [parted("  loop: add  r1 r2 r3 ; again"), parted('.text "a; b"'), parted("")],
            [("loop", ["add", "r1", "r2", "r3"]), (None, [".text", '"a; b"']), (None, [])],
        )


class Names(Case):
    def test_names(self):
        for name in ("a", "z", "a0", "a_", "loop_1", "r", "r8", "r9", "r00", "r10", "r0_", "add", "set", "halt",
                     "abcdefghijkl", "x23456789012", "a" * 12):
            self.assertIs(is_label(name), True, name)

    def test_no_names(self):
        registers = [f"r{which}" for which in range(8)]
        for value in NO_STRINGS + registers + [
            "", "_", "_a", "0", "9a", "A", "Loop", "aB", "a b", " a", "a ", "a-b", "a.b", "a:", "a" * 13, "a" * 400,
            "a\n", "a+1", ".at",
        ]:
            with self.subTest(value=value):
                self.assertIs(is_label(value), False)


    def test_each_sign(self):
        for code in range(32, 127):
            sign = chr(code)
            self.assertIs(is_label(sign), sign in LETTERS, sign)
            self.assertIs(is_label("a" + sign), sign in LETTERS + DIGITS + "_", sign)
            self.assertIs(is_label("a" + sign + "b"), sign in LETTERS + DIGITS + "_", sign)


class Numbers(Case):
    def test_each_sign(self):
        for code in range(32, 127):
            sign = chr(code)
            self.same(number_in(sign), int(sign) if sign in DIGITS else None)
            self.same(number_in("1" + sign), int("1" + sign) if sign in DIGITS else None)
            self.same(number_in("0x" + sign), int(sign, 16) if sign in DIGITS + "abcdef" else None)

    def test_decimal(self):
        for text, number in (("0", 0), ("7", 7), ("00", 0), ("007", 7), ("999999", 999999), ("000000", 0), ("-0", 0),
                             ("-1", -1), ("-07", -7), ("-999999", -999999), ("-000001", -1)):
            self.same(number_in(text), number)

    def test_hexadecimal(self):
        for text, number in (("0x0", 0), ("0x9", 9), ("0xa", 10), ("0xf", 15), ("0x1f", 31), ("0x00ff", 255),
                             ("0xffff", 65535), ("0xbcde", 48350), ("0x0000", 0)):
            self.same(number_in(text), number)

    def test_none(self):
        for text in ("", "-", "--1", "+1", "1+", " 1", "1 ", "1 2", "1.0", "1_0", "1e3", "1000000", "0000000",
                     "-1000000", "-0000001", "0x", "0x12345", "0x00000", "0xg", "0xA", "0xFF", "0X1", "x1", "1x1",
                     "00x1", "0x-1", "-0x1", "0x 1", "0x1 ", "0x1_0", "a", "ten", "1\n", "9" * 400, "0x" + "f" * 400):
            with self.subTest(text=text):
                self.same(number_in(text), None)


class Counts(Case):
    def test_without_needless_noughts(self):
        for text, number in (("0", 0), ("7", 7), ("10", 10), ("999999", 999999)):
            self.same([count_in(text), count_in(text, 7)], [number, number])
        self.same([count_in("1000000"), count_in("1000000", 7), count_in("9999999", 7), count_in("10000000", 7),
                   count_in("12", 1), count_in("9", 1)], [None, 1000000, 9999999, None, None, 9])

    def test_none(self):
        for text in ("", "00", "01", "-0", "-1", "+1", "0x1", "1_0", " 1", "1 ", "1\n", "x", "1.0", "9" * 400):
            self.same([count_in(text), count_in(text, 7)], [None, None])


class Lines(Case):
    def test_words(self):
        for line, told in (
            ("nop", (None, ["nop"])),
            ("   nop   ", (None, ["nop"])),
            ("add r1   r2 r3", (None, ["add", "r1", "r2", "r3"])),
            ("add r1, r2", (None, ["add", "r1,", "r2"])),
            ("ten=10", (None, ["ten=10"])),
            ("ten = 10", (None, ["ten", "=", "10"])),
            ("      ", (None, [])),
        ):
            self.same(parted(line), told)

    def test_each_sign_but_blanks_double_quotes_and_semicolons_is_of_a_word(self):
        signs = "".join(chr(code) for code in range(33, 127) if chr(code) not in '";')
        self.same(parted(f" {signs} x{signs}x"), (None, [signs, f"x{signs}x"]))
        for sign in signs:
            self.same(parted(f'.text "a"{sign}'), None)

    def test_comments(self):
        for line, told in (
            (";", (None, [])),
            ("; nop", (None, [])),
            ("nop;", (None, ["nop"])),
            ("nop;nop", (None, ["nop"])),
            ("nop ; a ; b", (None, ["nop"])),
            ("nop ; it \"isn't\" \" closed", (None, ["nop"])),
            ('nop;"', (None, ["nop"])),
            ("x:;nop", ("x", [])),
            ("x;: nop", (None, ["x"])),
            (' ;"', (None, [])),
        ):
            self.same(parted(line), told)

    def test_labels(self):
        for line, told in (
            ("x:", ("x", [])),
            ("  x:  ", ("x", [])),
            ("x: nop", ("x", ["nop"])),
            ("x: y: nop", ("x", ["y:", "nop"])),
            ("abcdefghijkl: nop", ("abcdefghijkl", ["nop"])),
            ("r8: nop", ("r8", ["nop"])),
            ("x:nop", (None, ["x:nop"])),
            ("x :", (None, ["x", ":"])),
            ("nop x:", (None, ["nop", "x:"])),
        ):
            self.same(parted(line), told)

    def test_no_labels(self):
        for line in (":", ": nop", "r0:", "r7: nop", "X: nop", "9: nop", "_a: nop", "abcdefghijklm: nop", "x::", "a-b:",
                     "  r1: ; again", "x+1:"):
            with self.subTest(line=line):
                self.same(parted(line), None)

    def test_strings(self):
        for line, told in (
            ('""', (None, ['""'])),
            ('.text ""', (None, [".text", '""'])),
            ('.text "  a  b  "  ', (None, [".text", '"  a  b  "'])),
            ('.text ";"', (None, [".text", '";"'])),
            ('.text ";;" ; ";"', (None, [".text", '";;"'])),
            ('.text "a";b', (None, [".text", '"a"'])),
            ('"a" "b c"', (None, ['"a"', '"b c"'])),
            ('x: "y: z"', ("x", ['"y: z"'])),
            ('"x:" y:', (None, ['"x:"', "y:"])),
        ):
            self.same(parted(line), told)

    def test_wrong_double_quotes(self):
        for line in ('"', ' "', '  "abc', ' "a;', '.text "', '.text "abc', '.text "a" "', '.text "abc ; again',
                     '.text abc"', '.text ab"c"', '.text"a"', '.text "a"b', '.text "a""b"', '"a":', '"a": nop',
                     'x:"a"', 'ab"c;d"', 'nop "a"b" ; c'):
            with self.subTest(line=line):
                self.same(parted(line), None)

    def test_the_list_is_new(self):
        parted("x: nop")[1].clear()
        self.same(parted("x: nop"), ("x", ["nop"]))

    def test_arguments_by_name(self):
        self.same([is_label(value="x"), number_in(text="7"), parted(text="nop")], [True, 7, (None, ["nop"])])


class Refusals(Case):
    def test_no_strings(self):
        for call in (number_in, parted):
            for value in NO_STRINGS:
                with self.subTest(call=call.__name__, value=value):
                    self.refused(BadText, {"line": 0}, call, value)


if __name__ == "__main__":
    unittest.main()
