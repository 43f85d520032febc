"""Images [25] and their texts [27]."""

import unittest

from kit import BIG, NO_COUNTS, NO_LISTS, NO_STRINGS, NO_TUPLES, NO_WORDS, Case
from orderlycore.errors import BadText, InvalidImage, InvalidParts, InvalidPlace
from orderlycore.images import Image, image_of, image_text, loaded
from orderlycore.memory import Memory, memory_of

NO_PLACES = NO_COUNTS + [960, 961, 1023, 1024, BIG]
NO_IMAGES = NO_TUPLES + [[(3, [1])], "image\n", Memory(), Image]


class Examples(Case):
    def test_example(self):
        two = Image([(20, [7]), (3, [1, 2]), (5, [9])])
        self.same(
            [two.parts(), two.word(5), two.word(6), two.size, image_text(two),
             image_of("image\npart 3 1 2 9\npart 20 7\n") == two, loaded(two).word(20)],
            [[(3, [1, 2, 9]), (20, [7])], 9, None, 4, "image\npart 3 1 2 9\npart 20 7\n", True, 7],
        )


class Parts(Case):
    def test_none(self):
        for parts in ([], ()):
            image = Image(parts)
            self.same([image.parts(), image.size, image.word(0), image.word(959)], [[], 0, None, None])

    def test_parts_that_touch_become_one(self):
        self.same(Image([(3, [1]), (4, [2]), (5, [3])]).parts(), [(3, [1, 2, 3])])
        self.same(Image([(5, (3,)), (3, (1, 2))]).parts(), [(3, [1, 2, 3])])

    def test_parts_that_do_not_touch_stay_apart(self):
        self.same(Image(((5, (3,)), (3, (1,)))).parts(), [(3, [1]), (5, [3])])

    def test_words_nought_are_told(self):
        self.same(Image([(3, [0, 0]), (7, [0])]).parts(), [(3, [0, 0]), (7, [0])])

    def test_both_ends_of_memory(self):
        image = Image([(959, [65535]), (0, [0])])
        self.same([image.parts(), image.size, image.word(0), image.word(1), image.word(958), image.word(959)],
                  [[(0, [0]), (959, [65535])], 2, 0, None, None, 65535])
        self.same(Image([(760, [1] * 200)]).parts(), [(760, [1] * 200)])

    def test_all_places(self):
        image = Image([(place, [place]) for place in range(200)])
        self.same([image.parts(), image.size], [[(0, list(range(200)))], 200])

    def test_what_is_passed_stays_and_is_copied(self):
        words = [1, 2]
        parts = [(20, [7]), (3, words)]
        image = Image(parts)
        self.same(parts, [(20, [7]), (3, [1, 2])])
        words[0] = 9
        parts.clear()
        self.same(image.parts(), [(3, [1, 2]), (20, [7])])

    def test_what_is_returned_is_new(self):
        image = Image([(3, [1, 2])])
        told = image.parts()
        told[0][1].append(3)
        told.clear()
        self.same(image.parts(), [(3, [1, 2])])

    def test_arguments_by_name(self):
        image = Image(parts=[(3, [1])])
        self.same([image.word(place=3), image_text(image=image), image_of(text="image\npart 3 1\n") == image,
                   loaded(image=image).rows()], [1, "image\npart 3 1\n", True, [(3, 1)]])


class Alike(Case):
    def test_the_same_words_at_the_same_places(self):
        one = Image([(3, [1, 2])])
        for other in (Image([(4, [2]), (3, [1])]), Image(((3, (1,)), (4, (2,)))), Image(one.parts())):
            self.assertIs(one == other, True)
            self.assertIs(one != other, False)
        for parts in ([], [(3, [1])], [(3, [1, 3])], [(2, [1, 2])], [(3, [1, 2, 0])], [(3, [1]), (5, [2])]):
            self.assertIs(one == Image(parts), False)
            self.assertIs(one != Image(parts), True)

    def test_other_kinds(self):
        for other in (None, 0, False, "", [], {}, [(3, [1])], "image\npart 3 1\n", memory_of([(3, [1])]), Image):
            self.assertIs(Image([(3, [1])]) == other, False)
            self.assertIs(Image([(3, [1])]) != other, True)


class Texts(Case):
    def test_there_and_back(self):
        for parts in ([], [(0, [0])], [(959, [65535])], [(0, [1, 2, 3]), (4, [4]), (100, [0, 0])],
                      [(760, [65535] * 200)]):
            image = Image(parts)
            text = "image\n" + "".join(f"part {' '.join(map(str, [first, *words]))}\n" for first, words in parts)
            self.same(image_text(image), text)
            self.assertTrue(image_of(text) == image)
            self.same(image_of(text).parts(), image.parts())

    def test_a_text_of_all_places(self):
        image = image_of("image\npart 0" + " 65535" * 500 + "\n")
        self.same(image.size, 500)
        self.assertTrue(image_of(image_text(image)) == image)

    def test_wrong_first_lines(self):
        for text in ("", "\n", "image", "Image\n", "image \n", " image\n", "images\n", "part 3 1\n",
                     "part 3 1\nimage\n", "image part 3 1\n", "image;\n", "\nimage\n"):
            with self.subTest(text=text):
                self.refused(BadText, {"line": 1}, image_of, text)

    def test_wrong_lines(self):
        for line in (
            "", " ", "image", "part", "part 3", "part 3 ", "part  3 1", "part 3  1", "part 3 1 ", " part 3 1",
            "Part 3 1", "parts 3 1", "part 03 1", "part 3 01", "part 00 1", "part 3 00", "part -0 1", "part 3 -0",
            "part -1 1", "part 3 -1", "part +3 1", "part 3 +1", "part 0x3 1", "part 3 0x1", "part 960 1",
            "part 959 1 2", "part 3 65536", "part 3 100000", "part 3 x", "part x 1", "part None 1", "part 3 None",
            "part 3,1", "part 3 1;", "part 3 1\t", "part:3 1",
            "part 3 " + "9" * 400, "part " + "9" * 400 + " 1", "part 0" + " 1" * 961, "part 1" + " 1" * 960, ".at 3",
        ):
            with self.subTest(line=line):
                self.refused(BadText, {"line": 2}, image_of, f"image\n{line}\n")
                self.refused(BadText, {"line": 3}, image_of, f"image\npart 0 1\n{line}\npart 7 1\n")

    def test_parts_must_rise_and_not_touch(self):
        for line in ("part 5 1", "part 4 1", "part 3 1", "part 2 1", "part 0 1 1 1 1"):
            self.refused(BadText, {"line": 3}, image_of, f"image\npart 3 1 2\n{line}\n")
        self.same(image_of("image\npart 3 1 2\npart 6 1\n").parts(), [(3, [1, 2]), (6, [1])])
        self.refused(BadText, {"line": 4}, image_of, "image\npart 3 1\npart 9 1\npart 6 1\n")

    def test_a_last_line_without_a_line_feed(self):
        self.refused(BadText, {"line": 2}, image_of, "image\npart 3 1")
        self.refused(BadText, {"line": 2}, image_of, "image\npart")
        self.refused(BadText, {"line": 3}, image_of, "image\npart 3 1\n ")
        self.refused(BadText, {"line": 3}, image_of, "image\npart 3 1\npart 5 1")

    def test_lines_ahead_are_told_first(self):
        self.refused(BadText, {"line": 1}, image_of, "imag\npart 3 1")
        self.refused(BadText, {"line": 2}, image_of, "image\npart 3\npart 5 1")
        self.refused(BadText, {"line": 2}, image_of, "image\n\n")
        self.refused(BadText, {"line": 3}, image_of, "image\npart 3 1\n\n")
        self.refused(BadText, {"line": 2}, image_of, "image\npart 3\npart x\n")


class Loaded(Case):
    def test_these_words_and_nought_elsewhere(self):
        image = Image([(0, [5, 0]), (958, [6, 7])])
        self.assertIsInstance(loaded(image), Memory)
        self.assertTrue(loaded(image) == memory_of([(0, [5]), (958, [6, 7])]))
        self.assertTrue(loaded(Image([])) == Memory())

    def test_the_memory_is_new(self):
        image = Image([(3, [1])])
        loaded(image).put(3, 2)
        self.same([image.word(3), loaded(image).word(3)], [1, 1])


class Refusals(Case):
    def test_parts(self):
        wrong = NO_LISTS + [[one] for one in NO_TUPLES + [(), (3,), (3, [1], 2), [3, [1]], (3, [])]]
        wrong += [[(place, [1])] for place in NO_PLACES] + [[(3, words)] for words in NO_LISTS]
        wrong += [[(3, [1, word])] for word in NO_WORDS]
        wrong += [[(959, [1, 2])], [(761, [1] * 200)], (3, [1]), [(3, [1]), (9, [])], [(3, ())]]
        self.refused_each(InvalidParts, "value", wrong, Image)

    def test_two_words_at_one_place(self):
        wrong = [
            [(3, [1]), (3, [1])], [(3, [1, 2]), (4, [2])], [(4, [2]), (3, [1, 2])], ((3, [1, 2, 3]), (4, [2])),
            [(9, [1]), (3, [1, 2, 3, 4, 5, 6, 7])], [(0, [1]), (5, [1]), (0, [1])],
        ]
        self.refused_each(InvalidParts, "value", wrong, Image)

    def test_places(self):
        self.refused_each(InvalidPlace, "value", NO_PLACES, Image([(3, [1])]).word)

    def test_no_images(self):
        for call in (image_text, loaded):
            self.refused_each(InvalidImage, "value", NO_IMAGES, call)

    def test_no_strings(self):
        for value in NO_STRINGS:
            with self.subTest(value=value):
                self.refused(BadText, {"line": 0}, image_of, value)


if __name__ == "__main__":
    unittest.main()
