"""The errors of the package: four families, each class directly below the head of its family."""


class CoreError(ValueError):
    """What was passed is not valid."""

class InvalidWord(CoreError):
    def __init__(self, value):
        self.value = value

class InvalidAddress(CoreError):
    def __init__(self, value):
        self.value = value

class InvalidPlace(CoreError):
    def __init__(self, value):
        self.value = value

class InvalidRegister(CoreError):
    def __init__(self, value):
        self.value = value

class InvalidLine(CoreError):
    def __init__(self, value):
        self.value = value

class InvalidInstruction(CoreError):
    def __init__(self, value):
        self.value = value

class InvalidSettings(CoreError):
    def __init__(self, value):
        self.value = value

class InvalidWhims(CoreError):
    def __init__(self, value):
        self.value = value

class InvalidMemory(CoreError):
    def __init__(self, value):
        self.value = value

class InvalidImage(CoreError):
    def __init__(self, value):
        self.value = value

class InvalidInputs(CoreError):
    def __init__(self, value):
        self.value = value

class InvalidState(CoreError):
    def __init__(self, value):
        self.value = value

class InvalidCore(CoreError):
    def __init__(self, value):
        self.value = value

class InvalidMany(CoreError):
    def __init__(self, value):
        self.value = value

class InvalidPredictor(CoreError):
    def __init__(self, value):
        self.value = value

class InvalidHierarchy(CoreError):
    def __init__(self, value):
        self.value = value

class InvalidBuffer(CoreError):
    def __init__(self, value):
        self.value = value

class BadText(CoreError):
    def __init__(self, line):
        self.line = line

class DividedByNought(CoreError):
    pass

class InvalidCause(CoreError):
    def __init__(self, value):
        self.value = value

class InvalidCell(CoreError):
    def __init__(self, value):
        self.value = value

class InvalidCommand(CoreError):
    def __init__(self, value):
        self.value = value

class InvalidCommands(CoreError):
    def __init__(self, value):
        self.value = value

class InvalidControls(CoreError):
    def __init__(self, value):
        self.value = value

class InvalidCycles(CoreError):
    def __init__(self, value):
        self.value = value

class InvalidDebugger(CoreError):
    def __init__(self, value):
        self.value = value

class InvalidFlags(CoreError):
    def __init__(self, value):
        self.value = value

class InvalidFrame(CoreError):
    def __init__(self, value):
        self.value = value

class InvalidLabel(CoreError):
    def __init__(self, value):
        self.value = value

class InvalidListing(CoreError):
    def __init__(self, value):
        self.value = value

class InvalidLow(CoreError):
    def __init__(self, value):
        self.value = value

class InvalidNumber(CoreError):
    def __init__(self, value):
        self.value = value

class InvalidNumbers(CoreError):
    def __init__(self, value):
        self.value = value

class InvalidOperation(CoreError):
    def __init__(self, value):
        self.value = value

class InvalidPage(CoreError):
    def __init__(self, value):
        self.value = value

class InvalidParts(CoreError):
    def __init__(self, value):
        self.value = value

class InvalidPoint(CoreError):
    def __init__(self, value):
        self.value = value

class InvalidPoints(CoreError):
    def __init__(self, value):
        self.value = value

class InvalidRaised(CoreError):
    def __init__(self, value):
        self.value = value

class InvalidRaises(CoreError):
    def __init__(self, value):
        self.value = value

class InvalidReads(CoreError):
    def __init__(self, value):
        self.value = value

class InvalidRow(CoreError):
    def __init__(self, value):
        self.value = value

class InvalidRowList(CoreError):
    def __init__(self, value):
        self.value = value

class InvalidRows(CoreError):
    def __init__(self, value):
        self.value = value

class InvalidSets(CoreError):
    def __init__(self, value):
        self.value = value

class InvalidSide(CoreError):
    def __init__(self, value):
        self.value = value

class InvalidSort(CoreError):
    def __init__(self, value):
        self.value = value

class InvalidSource(CoreError):
    def __init__(self, value):
        self.value = value

class InvalidSteps(CoreError):
    def __init__(self, value):
        self.value = value

class InvalidStretch(CoreError):
    def __init__(self, value):
        self.value = value

class InvalidTables(CoreError):
    def __init__(self, value):
        self.value = value

class InvalidText(CoreError):
    def __init__(self, line):
        self.line = line

class InvalidTrace(CoreError):
    def __init__(self, value):
        self.value = value

class InvalidTwist(CoreError):
    def __init__(self, value):
        self.value = value

class InvalidValue(CoreError):
    def __init__(self, value):
        self.value = value

class InvalidValues(CoreError):
    def __init__(self, value):
        self.value = value

class InvalidWay(CoreError):
    def __init__(self, value):
        self.value = value

class InvalidWays(CoreError):
    def __init__(self, value):
        self.value = value

class InvalidWords(CoreError):
    def __init__(self, value):
        self.value = value

class MissingError(LookupError):
    """What was asked for is not there."""

class NoNumber(MissingError):
    def __init__(self, value):
        self.value = value

class NoSuchLabel(MissingError):
    def __init__(self, label):
        self.label = label

class NoSuchName(MissingError):
    def __init__(self, name):
        self.name = name

class UnknownNumber(MissingError):
    def __init__(self, value):
        self.value = value

class StateError(RuntimeError):
    """What was asked for cannot be done as things are now."""

class AlreadyThere(StateError):
    def __init__(self, number):
        self.number = number

class CommandFailed(StateError):
    def __init__(self, position):
        self.position = position

class FewTables(StateError):
    pass

class Halted(StateError):
    pass

class HasRead(StateError):
    pass

class IsKnown(StateError):
    pass

class NoRoom(StateError):
    pass

class NotDone(StateError):
    pass

class NotNewest(StateError):
    pass

class NotOldest(StateError):
    pass

class NotOpen(StateError):
    pass

class NotRaised(StateError):
    pass

class NotReady(StateError):
    pass

class NotWaiting(StateError):
    pass

class NothingFetched(StateError):
    pass

class NothingFree(StateError):
    pass

class StillLent(StateError):
    pass

class LimitError(ArithmeticError):
    """There would be more than may be."""

class TooMany(LimitError):
    def __init__(self, what, limit):
        self.what = what
        self.limit = limit
