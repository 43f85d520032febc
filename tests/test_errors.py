"""The classes of orderlycore/errors.py: their bases, constructors and attributes."""

import unittest

from kit import BIG, Case
from orderlycore import errors

FAMILIES = {
    "CoreError": (ValueError, """
        InvalidWord(value) InvalidAddress(value) InvalidPlace(value) InvalidRegister(value) InvalidLine(value)
        InvalidInstruction(value) InvalidSettings(value) InvalidWhims(value) InvalidMemory(value)
        InvalidImage(value) InvalidInputs(value) InvalidState(value) InvalidCore(value) InvalidMany(value)
        InvalidPredictor(value) InvalidHierarchy(value) InvalidBuffer(value) BadText(line) DividedByNought()
        InvalidCause(value) InvalidCell(value) InvalidCommand(value) InvalidCommands(value)
        InvalidControls(value) InvalidCycles(value) InvalidDebugger(value) InvalidFlags(value)
        InvalidFrame(value) InvalidLabel(value) InvalidListing(value) InvalidLow(value) InvalidNumber(value)
        InvalidNumbers(value) InvalidOperation(value) InvalidPage(value) InvalidParts(value)
        InvalidPoint(value) InvalidPoints(value) InvalidRaised(value) InvalidRaises(value)
        InvalidReads(value) InvalidRow(value) InvalidRowList(value) InvalidRows(value) InvalidSets(value)
        InvalidSide(value) InvalidSort(value) InvalidSource(value) InvalidSteps(value) InvalidStretch(value)
        InvalidTables(value) InvalidText(line) InvalidTrace(value) InvalidTwist(value) InvalidValue(value)
        InvalidValues(value) InvalidWay(value) InvalidWays(value) InvalidWords(value)"""),
    "MissingError": (LookupError, "NoNumber(value) NoSuchLabel(label) NoSuchName(name) UnknownNumber(value)"),
    "StateError": (RuntimeError, """
        AlreadyThere(number) CommandFailed(position) FewTables() Halted() HasRead() IsKnown() NoRoom()
        NotDone() NotNewest() NotOldest() NotOpen() NotRaised() NotReady() NotWaiting() NothingFetched()
        NothingFree() StillLent()"""),
    "LimitError": (ArithmeticError, "TooMany(what,limit)"),
}


def classes(told):
    """Of each class its name and the list of its attributes."""
    for one in told.split():
        name, behind = one.split("(")
        yield name, [attribute for attribute in behind[:-1].split(",") if attribute]


class Errors(Case):
    def test_heads_are_directly_below_pythons_own(self):
        for head, (base, _) in FAMILIES.items():
            self.assertEqual(getattr(errors, head).__bases__, (base,))

    def test_all_others_are_directly_below_their_head(self):
        for head, (_, told) in FAMILIES.items():
            for name, _ in classes(told):
                with self.subTest(name=name):
                    self.assertEqual(getattr(errors, name).__bases__, (getattr(errors, head),))
                    self.assertEqual(getattr(errors, name).__module__, "orderlycore.errors")

    def test_attributes_by_position_and_by_name(self):
        values = [None, True, 0, -1, BIG, "", "x", [], [1], (), (1, [2]), {}, {"a": 1}, object()]
        for _, told in FAMILIES.values():
            for name, attributes in classes(told):
                for value in values:
                    made = getattr(errors, name)(*[value for _ in attributes])
                    named = getattr(errors, name)(**{attribute: value for attribute in attributes})
                    for attribute in attributes:
                        self.assertIs(getattr(made, attribute), value)
                        self.assertIs(getattr(named, attribute), value)

    def test_too_many_keeps_both_apart(self):
        made = errors.TooMany("points", 8)
        self.assertEqual((made.what, made.limit), ("points", 8))

    def test_there_are_no_others(self):
        wanted = set(FAMILIES)
        for _, told in FAMILIES.values():
            wanted |= {name for name, _ in classes(told)}
        there = {name for name, one in vars(errors).items() if isinstance(one, type)}
        self.assertEqual(there, wanted)


if __name__ == "__main__":
    unittest.main()
