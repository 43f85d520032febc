"""Devices [3a3], lines [3a4], all of it [3a5]."""

import unittest

from kit import BIG, NO_COUNTS, NO_LISTS, NO_WORDS, Case
from orderlycore.devices import Devices
from orderlycore.errors import InvalidInputs, InvalidLine, InvalidPlace, InvalidWord, NotRaised

THERE = [960, 961, 976, 977]
NOT_THERE = NO_COUNTS + [0, 1, 959, 962, 963, 975, 978, 1023, 1024, 65536, BIG]


def counted(devices, many):
    for _ in range(many):
        devices.counted()


def change_all(devices):
    """Change each part of devices that have an input left and the line 1 raised."""
    devices.read(960)
    devices.write(960, 2)
    devices.write(977, 8)
    devices.raised(3)
    devices.lowered(1)
    devices.counted()


class Examples(Case):
    def test_reading(self):
        devices = Devices([5, 9])
        self.same(
            [devices.read(961), devices.read(960), devices.read(960), devices.read(960), devices.left(),
             devices.can(962), devices.due(15)],
            [2, 5, 9, 0, [], False, None],
        )
        self.same(
            [devices.write(977, 2), devices.write(960, 44), devices.raised(3), devices.counted(), devices.counted(),
             devices.due(9), devices.due(8), devices.read(976), devices.lowered(0), devices.told()],
            [None, None, None, None, None, 0, 3, 2, None, ([], [44], 2, 2, [3])],
        )


class Places(Case):
    def test_there(self):
        for place in THERE:
            self.assertIs(Devices([]).can(place), True)
        for value in NOT_THERE:
            self.assertIs(Devices([]).can(value), False)

    def test_at_first(self):
        devices = Devices([])
        self.same([devices.read(place) for place in THERE], [0, 0, 0, 0])
        self.same(devices.told(), ([], [], 0, 0, []))
        self.same([devices.left(), devices.outputs(), devices.steps], [[], [], 0])

    def test_inputs(self):
        devices = Devices([65535, 0, 7])
        self.same([devices.read(961), devices.read(961), devices.read(960), devices.left(), devices.read(961)],
                  [3, 3, 65535, [0, 7], 2])
        self.same([devices.read(960), devices.read(960), devices.read(961), devices.read(960), devices.read(960)],
                  [0, 7, 0, 0, 0])

    def test_outputs(self):
        devices = Devices([5])
        for word in (0, 65535, 7, 7):
            devices.write(960, word)
        self.same([devices.outputs(), devices.left(), devices.read(960)], [[0, 65535, 7, 7], [5], 5])

    def test_reading_elsewhere_changes_nothing(self):
        devices = Devices([5, 6])
        devices.write(977, 3)
        counted(devices, 3)
        told = devices.told()
        self.same([devices.read(961), devices.read(976), devices.read(977)], [2, 3, 3])
        self.same(devices.told(), told)

    def test_writing_the_inputs_left_and_the_steps_does_nothing(self):
        devices = Devices([5, 6])
        counted(devices, 3)
        self.same([devices.write(961, 9), devices.write(976, 9)], [None, None])
        self.same(devices.told(), ([5, 6], [], 3, 0, []))

    def test_steps_modulo(self):
        devices = Devices([])
        counted(devices, 65535)
        self.same([devices.read(976), devices.steps], [65535, 65535])
        devices.counted()
        self.same([devices.read(976), devices.steps, devices.told()[2]], [0, 65536, 65536])
        devices.counted()
        self.same([devices.read(976), devices.steps, devices.told()[2]], [1, 65537, 65537])

    def test_forty_inputs(self):
        devices = Devices(tuple(range(40)))
        self.same([devices.read(961), devices.left()], [40, list(range(40))])


class Timer(Case):
    def test_at_nought_it_raises_nothing(self):
        devices = Devices([])
        counted(devices, 65537)
        self.same(devices.told()[4], [])

    def test_it_raises_once_at_its_step(self):
        devices = Devices([])
        devices.write(977, 3)
        told = []
        for _ in range(5):
            devices.counted()
            told.append(devices.due(1))
            if devices.due(1) == 0:
                devices.lowered(0)
        self.same(told, [None, None, 0, None, None])
        self.same(devices.read(977), 3)

    def test_a_step_that_is_past_raises_nothing(self):
        devices = Devices([])
        counted(devices, 3)
        devices.write(977, 3)
        self.same(devices.due(15), None)
        devices.counted()
        self.same(devices.due(15), None)

    def test_modulo(self):
        devices = Devices([])
        devices.write(977, 65535)
        counted(devices, 65534)
        self.same(devices.due(15), None)
        devices.counted()
        self.same(devices.due(15), 0)
        devices.lowered(0)
        devices.write(977, 2)
        counted(devices, 2)
        self.same([devices.steps, devices.due(15)], [65537, None])
        devices.counted()
        self.same([devices.steps, devices.due(15)], [65538, 0])

    def test_set_back_to_nought(self):
        devices = Devices([])
        devices.write(977, 2)
        devices.write(977, 0)
        counted(devices, 3)
        self.same(devices.told(), ([], [], 3, 0, []))


class Lines(Case):
    def test_due_by_all_masks(self):
        for lines in range(16):
            devices = Devices([])
            for line in range(4):
                if lines // 2 ** line % 2 == 1:
                    devices.raised(line)
            for mask in range(16):
                wanted = [line for line in range(4) if (lines & mask) // 2 ** line % 2 == 1]
                self.same(devices.due(mask), wanted[0] if wanted else None)
                self.same(devices.due(65520 + mask), wanted[0] if wanted else None)

    def test_asking_what_is_due_changes_nothing(self):
        devices = Devices([])
        devices.raised(2)
        self.same([devices.due(15), devices.due(15), devices.told()[4]], [2, 2, [2]])

    def test_raised_twice_is_raised_once(self):
        devices = Devices([])
        self.same([devices.raised(1), devices.raised(1), devices.told()[4]], [None, None, [1]])
        self.same([devices.lowered(1), devices.told()[4], devices.due(15)], [None, [], None])
        self.refused(NotRaised, {}, devices.lowered, 1)

    def test_they_stay_until_they_are_lowered(self):
        devices = Devices([1])
        for line in (3, 0, 2):
            devices.raised(line)
        counted(devices, 10)
        devices.read(960)
        devices.write(960, 1)
        self.same(devices.told()[4], [0, 2, 3])
        devices.lowered(2)
        self.same(devices.told()[4], [0, 3])


class Apart(Case):
    def test_the_list_is_copied_and_stays(self):
        inputs = [5, 6]
        devices = Devices(inputs)
        devices.read(960)
        self.same(inputs, [5, 6])
        inputs[1] = 9
        inputs.append(4)
        self.same(devices.left(), [6])

    def test_what_is_returned_is_new(self):
        devices = Devices([5])
        devices.write(960, 6)
        devices.raised(2)
        told = devices.told()
        for one in (told[0], told[1], told[4], devices.left(), devices.outputs()):
            one.clear()
        self.same([devices.told(), devices.left(), devices.outputs()], [([5], [6], 0, 0, [2]), [5], [6]])

    def test_copies_change_apart(self):
        devices = Devices([5, 6])
        devices.write(960, 1)
        devices.write(977, 9)
        devices.raised(1)
        devices.counted()
        told = devices.told()
        copied = devices.copy()
        self.assertIsInstance(copied, Devices)
        self.assertTrue(copied == devices)
        self.same(copied.told(), told)
        change_all(copied)
        self.same(devices.told(), told)
        self.assertFalse(copied == devices)
        again = devices.copy()
        change_all(devices)
        self.same(again.told(), told)
        self.assertTrue(copied == devices)

    def test_each_part_counts(self):
        changes = [
            lambda one: one.read(960), lambda one: one.write(960, 3), lambda one: one.counted(),
            lambda one: one.write(977, 3), lambda one: one.raised(3),
        ]
        for change in changes:
            one, other = Devices([5]), Devices((5,))
            self.assertIs(one == other, True)
            self.assertIs(one != other, False)
            change(one)
            self.assertIs(one == other, False)
            self.assertIs(one != other, True)
            change(other)
            self.assertIs(one == other, True)

    def test_other_kinds(self):
        devices = Devices([])
        for other in (None, 0, False, "", [], {}, devices.told(), Devices):
            self.assertIs(devices == other, False)
            self.assertIs(devices != other, True)

    def test_arguments_by_name(self):
        devices = Devices(inputs=[5])
        self.same([devices.can(place=960), devices.read(place=960), devices.write(place=960, word=7),
                   devices.raised(line=2), devices.due(mask=4), devices.lowered(line=2), devices.told()],
                  [True, 5, None, None, 2, None, ([], [7], 0, 0, [])])


class Refusals(Case):
    def setUp(self):
        self.devices = Devices([5, 6])
        self.devices.write(960, 8)
        self.devices.write(977, 9)
        self.devices.counted()
        self.devices.raised(2)
        self.told = self.devices.told()

    def tearDown(self):
        self.same(self.devices.told(), self.told)

    def test_inputs(self):
        wrong = NO_LISTS + [[1, word] for word in NO_WORDS] + [(word,) for word in NO_WORDS] + [[0] * 41, (0,) * 41]
        self.refused_each(InvalidInputs, "value", wrong, Devices)

    def test_places(self):
        self.refused_each(InvalidPlace, "value", NOT_THERE, self.devices.read)
        self.refused_each(InvalidPlace, "value", NOT_THERE, lambda value: self.devices.write(value, 1))

    def test_words(self):
        for place in THERE:
            self.refused_each(InvalidWord, "value", NO_WORDS, lambda value: self.devices.write(place, value))
        self.refused_each(InvalidWord, "value", NO_WORDS, self.devices.due)

    def test_lines(self):
        for call in (self.devices.raised, self.devices.lowered):
            self.refused_each(InvalidLine, "value", NO_COUNTS + [4, 5, 16, BIG], call)

    def test_not_raised(self):
        for line in (0, 1, 3):
            self.refused(NotRaised, {}, self.devices.lowered, line)

    def test_sequence_of_the_parameters(self):
        self.refused(InvalidPlace, {"value": 962}, self.devices.write, 962, 65536)
        self.refused(InvalidWord, {"value": 65536}, self.devices.write, 961, 65536)


if __name__ == "__main__":
    unittest.main()
