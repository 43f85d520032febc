"""Values [22], statements [23], laying and bad lines [24], listings [26]."""

import unittest

from kit import NO_STRINGS, NO_TUPLES, Case
from orderlycore.assembler import assembled, first_bad, listed, names_of
from orderlycore.errors import BadText, InvalidImage
from orderlycore.images import Image
from orderlycore.instructions import decoded, encoded, is_instruction

COUNT = ("ten = 10\n set r1 ten\nloop: addi r1 r1 -1\n bnz r1 loop\n halt\n.at 32\n"
         "end: .word loop+1 -1\n")
NOP = encoded(("nop",))


class Assembler(Case):
    def makes(self, text, parts):
        """The text is good and makes an image of these parts."""
        self.assertIsNone(first_bad(text), text)
        self.same(assembled(text).parts(), parts)

    def makes_words(self, text, words):
        """The text is good, and lays these words from place 0 on."""
        self.makes(text, [(0, words)])

    def bad(self, text, line):
        """This is the first bad line of the text."""
        with self.subTest(text=text):
            self.same(first_bad(text), line)
            self.refused(BadText, {"line": line}, assembled, text)
            self.refused(BadText, {"line": line}, names_of, text)

    def bad_in_form(self, line, ahead=""):
        """The line is bad in form behind these lines: it counts ahead of one that is bad in worth."""
        number = len(ahead.split("\n"))
        self.bad(ahead + line, number)
        self.bad(".at 900\n.word nowhere\n.at 0\n" + ahead + line, number + 3)

    def bad_in_worth(self, line, ahead="", behind=""):
        """The line is bad in worth between these lines: it does not count ahead of one that is bad in form."""
        number = len(ahead.split("\n"))
        text = ahead + line + behind
        self.bad(text, number)
        self.bad(text + "\n?", len(text.split("\n")) + 1)


class Examples(Assembler):
    def test_example(self):
        self.same(
            [names_of(COUNT), listed(assembled(COUNT)), first_bad(COUNT), first_bad("halt r1\n"),
             first_bad("bz r1 far\nx: x: nop")],
            [[("end", 32), ("loop", 2), ("ten", 10)],
             ".at 0\nlim r1 10\nlhi r1 0\naddi r1 r1 -1\nbnz r1 -1\nhalt\n.at 32\n.word 3\n.word 65535\n", None, 1, 2],
        )


class Lines(Assembler):
    def test_texts_that_lay_nothing(self):
        for text in ("", "\n", "   ", "; nothing", "\n\n;\n", "x:", "ten = 10", ".space 0", '.text ""', ".at 959",
                     ".at 5\n"):
            self.makes(text, [])

    def test_lines_are_counted_from_one(self):
        self.bad("?", 1)
        self.bad("\n?", 2)
        self.bad("\n\n;\n?\n", 4)
        self.bad("nop\nnop\n?", 3)

    def test_blanks_and_comments(self):
        self.makes_words("   nop   ;again\n;nop\nx:   nop;", [NOP, NOP])

    def test_lines_that_are_not_parted(self):
        for line in ('.text "a', '.text a"b"', "r1: nop", "X: nop", ": nop", "abcdefghijklm: nop", '"'):
            self.bad_in_form(line, "nop\n")


class Names(Assembler):
    def test_signs(self):
        for name in ("a", "abcdefghijkl", "r8", "a_0", "add", "set", "halt"):
            self.same(names_of(f"nop\n{name}: nop"), [(name, 1)])
            self.same(names_of(f"{name} = 7"), [(name, 7)])
            self.makes_words(f"{name} = 7\n.word {name}", [7])
        for name in ("r0", "r7", "abcdefghijklm", "A", "_a", "0a", "a-b", ".at", ""):
            self.bad_in_form(f"{name}: nop")
            self.bad_in_form(f"{name} = 7")
            self.bad_in_form(f".word {name}")

    def test_by_a_number(self):
        self.same(names_of("a = 0\nb = -0\nc = 999999\nd = -999999\ne = 0xffff\nf = 007"),
                  [("a", 0), ("b", 0), ("c", 999999), ("d", -999999), ("e", 65535), ("f", 7)])
        for line in ("a = ", "a =", "a = b", "a = a", "a = 1 2", "a = 1000000", "a = 0x10000", "a = -0x1", "a = 1+1",
                     "a=1", "a =1", "a= 1", "a == 1", "= 1", "= = 1", "a = =", "x: a = 1", "5 = 5", "a = r1", '"a" = 1',
                     'a = "1"'):
            self.bad_in_form(line)

    def test_by_a_label(self):
        self.same(names_of("a: nop\nb:\nc: set r1 0\nd: .at 32\ne: .space 3\nf: .word 1 2\ng: .text \"ab\"\nh: ; end"),
                  [("a", 0), ("b", 1), ("c", 1), ("d", 32), ("e", 32), ("f", 35), ("g", 37), ("h", 39)])

    def test_none(self):
        self.same([names_of(""), names_of("nop")], [[], []])

    def test_what_is_told_is_new_and_sorted(self):
        text = "b = 2\na = 1\nc: nop"
        names_of(text).clear()
        self.same(names_of(text), [("a", 1), ("b", 2), ("c", 0)])

    def test_told_twice(self):
        for one in ("x:", "x: nop", "x = 1", "x: .at 7"):
            for other in ("x:", "x: nop", "x = 1", "x: .at 9", "x: .space 0"):
                self.bad_in_form(other, f"{one}\ny:\n")

    def test_a_label_at_place_960(self):
        self.same(names_of(".at 959\nnop\nend:\nalso: .space 0\nstill: .text \"\""),
                  [("also", 960), ("end", 960), ("still", 960)])
        self.makes(".at 958\n.word end 1\nend:", [(958, [960, 1])])


class Values(Assembler):
    def test_numbers_in_their_three_ways(self):
        self.makes_words(".word 0 7 007 65535 -1 -32768 0x0 0xffff 0x1f -00001",
                         [0, 7, 7, 65535, 65535, 32768, 0, 65535, 31, 65535])

    def test_names_and_so_much_more_or_less(self):
        self.makes_words("a = 100\n.word a a+1 a-1 a+000005 a-100 a-101 b b-12 b+65526\nb:",
                         [100, 101, 99, 105, 0, 65535, 9, 65533, 65535])

    def test_none(self):
        for value in ("+", "-", "a+", "a-", "+1", "1+1", "1+a", "a+b", "a+1+1", "a+-1", "a-+1", "a+0x1", "a+1000000",
                      "a-0000001", "a + 1", "a +1", "r1", "r1+1", "a.b", "A", "--1", "-0x1", "0x12345", "0xFF",
                      "1000000", "-1000000", "a*1", '"a"', "abcdefghijklm", "a:", "="):
            self.bad_in_form(f".word {value}", "a = 1\nb = 1\n")

    def test_least_and_greatest_worth(self):
        self.makes_words(".word -32768 65535", [32768, 65535])
        self.makes_words("a = 999999\nb = -999999\n.word a-934464 b+967231", [65535, 32768])
        for value in ("-32769", "65536", "a-934463", "b+967230", "a", "b"):
            self.bad_in_worth(f".word 1 {value}", "a = 999999\nb = -999999\n", "\nnop")

    def test_told_nowhere(self):
        for line in (".word x", ".word 1 x 2", "set r1 x", "addi r1 r1 x", "lim r1 x", "bz r1 x", "jal r1 x+1", "sys x",
                     "rdc r1 x-1"):
            self.bad_in_worth(line, "nop\n", "\ny:")

    def test_ahead_and_behind(self):
        self.makes_words(".word a b c\na = 5\nb: .word a b c\nc:", [5, 3, 6, 5, 3, 6])


class Statements(Assembler):
    def test_at(self):
        self.makes(".at 959\nnop", [(959, [NOP])])
        self.makes(".at 0x1f\nnop\n.at 5\nnop\n.at -0\nnop", [(0, [NOP]), (5, [NOP]), (31, [NOP])])
        self.makes(".at 5\n.at 6\nx: .at 7\n.word x", [(7, [7])])
        for line in (".at", ".at 960", ".at -1", ".at 0x3c0", ".at 999999", ".at 1 2", ".at x", ".at 1+1", ".at r1",
                     '.at "1"', ".at1", ".At 1"):
            self.bad_in_form(line, "x = 5\n")

    def test_space(self):
        self.makes_words(".space 1", [0])
        self.makes_words("nop\n.space 400\nnop", [NOP] + [0] * 400 + [NOP])
        self.makes_words("nop\n.space 0\n.space 0x2\nnop", [NOP, 0, 0, NOP])
        for line in (".space", ".space 401", ".space -1", ".space 0x191", ".space 1 2", ".space x", ".space r1",
                     ".Space 1"):
            self.bad_in_form(line, "x = 5\n")

    def test_word(self):
        self.makes_words(".word 5", [5])
        self.makes_words(".word " + " ".join(["7"] * 40), [7] * 40)
        for line in (".word", ".word " + " ".join(["7"] * 41), '.word "a"', ".word 1,2", ".word 1 r1", ".Word 1"):
            self.bad_in_form(line, "nop\n")

    def test_text(self):
        signs = "".join(chr(code) for code in range(32, 127) if chr(code) != '"')
        self.makes_words(f'.text "{signs[:80]}"', [ord(sign) for sign in signs[:80]])
        self.makes_words(f'.text "{signs[80:]}"', [ord(sign) for sign in signs[80:]])
        self.makes_words('nop\n.text ""\n.text " a; "', [NOP, 32, 97, 59, 32])
        for line in (".text", ".text a", ".text 'a'", '.text "a" "b"', '.text "a" 1', f'.text "{"a" * 81}"',
                     '.Text "a"',
                     '.text "a"b"', '.text "a', '"a"'):
            self.bad_in_form(line, "nop\n")

    def test_set(self):
        for value, low, high in (("0", 0, 0), ("255", 255, 0), ("256", 0, 1), ("65535", 255, 255), ("-1", 255, 255),
                                 ("-32768", 0, 128), ("0x1234", 0x34, 0x12), ("a", 1, 0), ("a-2", 255, 255), ("b", 2,
                                 0)):
            self.makes_words(f"a = 1\nset r3 {value}\nb:", [encoded(("lim", 3, low)), encoded(("lhi", 3, high))])
        for line in ("set r1 65536", "set r1 -32769", "set r1 x"):
            self.bad_in_worth(line, "nop\n", "\nnop")
        for line in ("set", "set r1", "set r8 1", "set 1 1", "set r1 1 2", "set r1 r2", "set a 1", 'set r1 "a"',
                     "Set r1 1"):
            self.bad_in_form(line, "nop\n")

    def test_no_statements(self):
        for line in ("move r1 r2", "r1", "5", "x", "x y", "nop nop", "x: y: nop", "x: y:", ".end", ".", "add", "=", ",",
                     "NOP", "nop,", "x : nop"):
            self.bad_in_form(line, "nop\n")

    def test_instructions_without_a_number(self):
        self.makes_words("add r1 r2 r3\n eq   r7 r0 r7\nret\nhalt\nnop",
                         [encoded(one) for one in (("add", 1, 2, 3), ("eq", 7, 0, 7), ("ret",), ("halt",), ("nop",))])
        for line in ("add r1 r2", "add r1 r2 3", "add r1 r2 x", "add r1 r2 r8", "add r1 r2 r3 r4", "add r1,r2,r3",
                     "add 1 2 3", "halt r1", "halt 0", "ret x"):
            self.bad_in_form(line, "x = 1\nnop\n")

    def test_numbers_at_both_ends(self):
        for ahead, least, greatest in (
            ("addi r1 r2", -16, 15), ("ld r1 r2", -16, 15), ("st r1 r2", -16, 15), ("jr r1 r2", -16, 15),
            ("lim r1", 0, 255), ("lhi r1", 0, 255), ("bz r1", -128, 127), ("bnz r1", -128, 127), ("jal r1", -128, 127),
            ("sys", 0, 255), ("rdc r1", 0, 7), ("wrc r1", 0, 7),
        ):
            name, *registers = ahead.split()
            for number in (least, 0, greatest):
                word = encoded((name, *[int(one[1]) for one in registers], number))
                self.makes_words(f"nop\n{ahead} {number}", [NOP, word])
                self.makes_words(f"a = {number}\nnop\n{ahead} a", [NOP, word])
                self.makes_words(f"a = {number - 3}\nnop\n{ahead} a+3", [NOP, word])
            for number in (least - 1, greatest + 1, 999999, -999999):
                self.bad_in_worth(f"{ahead} {number}", "nop\n", "\nnop")
                self.bad_in_worth(f"{ahead} a", f"a = {number}\nnop\n", "\nnop")
            for behind in ("", " r3", " 1 2", " r3 1", " +1", ' "a"'):
                self.bad_in_form(ahead + behind, "nop\n")

    def test_numbers_in_other_ways(self):
        self.makes_words("lim r1 0x1f\nlim r1 007\naddi r1 r1 -01\nrdc r1 0x7",
                         [encoded(one) for one in (("lim", 1, 31), ("lim", 1, 7), ("addi", 1, 1, -1), ("rdc", 1, 7))])

    def test_labels_are_told_by_distance_to_those_that_go_there(self):
        for name in ("bz", "bnz", "jal"):
            self.makes_words(f"nop\na: nop\n{name} r1 a\n{name} r1 b\n{name} r1 a+2\n{name} r1 b-1\nb:", [
                NOP, NOP, encoded((name, 1, -1)), encoded((name, 1, 3)), encoded((name, 1, -1)), encoded((name, 1, 0)),
            ])

    def test_what_no_label_tells_is_the_number_itself(self):
        for name in ("bz", "bnz", "jal"):
            self.makes_words(f"nop\na = 5\n{name} r1 a\n{name} r1 a-6\n{name} r1 5", [
                NOP, encoded((name, 1, 5)), encoded((name, 1, -1)), encoded((name, 1, 5)),
            ])

    def test_labels_are_places_to_all_others(self):
        told = [("addi", 1, 1, 2), ("jr", 1, 2, 2), ("ld", 1, 2, 3), ("lim", 1, 2), ("sys", 2), ("rdc", 1, 2)]
        self.makes_words("nop\nnop\na: addi r1 r1 a\njr r1 r2 a\nld r1 r2 a+1\nlim r1 a\nsys a\nrdc r1 a",
                         [NOP, NOP] + [encoded(one) for one in told])

    def test_distances_at_both_ends(self):
        ahead = "a: .space 100\n.space 28\n"
        self.makes_words(ahead + "bz r1 a", [0] * 128 + [encoded(("bz", 1, -128))])
        self.bad_in_worth("bz r1 a", ahead + "nop\n")
        self.makes_words("bz r1 a\n.space 126\na:", [encoded(("bz", 1, 127))] + [0] * 126)
        self.bad_in_worth("bz r1 a", "", "\n.space 127\na:")


class Laying(Assembler):
    def test_each_word_at_the_next_place(self):
        self.makes('nop\n.word 1 2\n.text "a"\n.space 1\nset r1 0\n.at 20\nnop', [
            (0, [NOP, 1, 2, 97, 0, encoded(("lim", 1, 0)), encoded(("lhi", 1, 0))]), (20, [NOP]),
        ])

    def test_to_the_end_of_memory(self):
        self.makes(".at 958\n.word 1 2", [(958, [1, 2])])
        self.makes(".at 560\n.space 400\nend:", [(560, [0] * 400)])
        for line in ("nop", ".word 1", ".space 1", '.text "a"', "set r1 0"):
            self.bad_in_form(f"x: {line}", ".at 959\n.word 1\n")
        for line in (".word 1 2", ".space 2", '.text "ab"', "set r1 0"):
            self.bad_in_form(line, ".at 959\n")
        self.bad(".space 400\n.space 400\n.space 161", 3)

    def test_words_over_words(self):
        for line in ("nop", ".word 1", ".space 1", '.text "a"', "set r1 0"):
            self.bad_in_form(line, ".at 5\n.word 0\n.at 5\n")
            self.bad_in_form("nop", f".at 5\n{line}\n.at 5\n")
        self.bad_in_form("nop", ".at 5\nnop\n.at 4\nnop\n")
        self.bad_in_form(".word 1 2 3", ".at 5\nnop\n.at 3\n")
        self.makes(".at 5\nnop\n.at 3\n.word 1 2", [(3, [1, 2, NOP])])
        self.makes(".at 5\nnop\n.at 5\n.space 0\nx: .at 5\ny:", [(5, [NOP])])


class FirstBad(Assembler):
    def test_bad_in_form_comes_ahead_of_bad_in_worth(self):
        self.bad(".word x\nnop\nhalt r1", 3)
        self.bad("lim r1 256\nset r1 70000\nx: x: nop\n?", 3)
        self.bad(".word x\n.at 0\nnop", 3)
        self.bad("bz r0 x\nx = 500\nx = 1", 3)

    def test_the_first_one_of_each_kind(self):
        self.bad("nop\n?\n??", 2)
        self.bad("nop\n.word x\nlim r1 256", 2)
        self.bad("nop\nlim r1 256\n.word x", 2)
        self.bad("set r1 65536", 1)


class Listings(Assembler):
    def test_none(self):
        self.same(listed(Image([])), "")
        self.makes("", [])

    def test_parts_and_bad_words(self):
        image = Image([(959, [0]), (3, [2371, 2379]), (5, [65535])])
        self.same(listed(image), ".at 3\nadd r1 r2 r3\n.word 2379\n.word 65535\n.at 959\n.word 0\n")
        self.assertTrue(assembled(listed(image)) == image)

    def test_a_listing_is_good_and_makes_the_image_again(self):
        # All words, as many at once as fit beside some places that stay free.
        for begin in range(0, 65536, 512):
            words = list(range(begin, begin + 512))
            image = Image([(0, words[:200]), (310, words[200:400]), (960 - 112, words[400:])])
            text = listed(image)
            self.assertIsNone(first_bad(text))
            self.assertTrue(assembled(text) == image)

    def test_each_word_is_told_as_it_is(self):
        for word in (0, 1, 2371, 24925, 38143, 43011, 51200, 51201, 53248, 65535):
            line = listed(Image([(7, [word])])).split("\n")[1]
            self.assertEqual(line == f".word {word}", decoded(word) is None)
            self.assertEqual(is_instruction(decoded(word)), decoded(word) is not None)


class Refusals(Case):
    def test_no_strings(self):
        for call in (first_bad, assembled, names_of):
            for value in NO_STRINGS:
                with self.subTest(call=call.__name__, value=value):
                    self.refused(BadText, {"line": 0}, call, value)

    def test_no_images(self):
        self.refused_each(InvalidImage, "value", NO_TUPLES + [[(3, [1])], "nop", Image], listed)

    def test_arguments_by_name(self):
        self.same([first_bad(text="nop"), assembled(text="nop").parts(), names_of(text="x: nop"),
                   listed(image=Image([(0, [NOP])]))], [None, [(0, [NOP])], [("x", 0)], ".at 0\nnop\n"])


if __name__ == "__main__":
    unittest.main()
