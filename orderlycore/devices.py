"""DEVICES: input and output, the steps, the timer, and the lines by which they ask for interrupts."""

from orderlycore.basics import is_between, is_list
from orderlycore.errors import InvalidInputs, InvalidLine, InvalidPlace, NotRaised
from orderlycore.words import WORDS, is_word_list, need_word

_INPUT_OUTPUT = 960
_LEFT = 961
_STEPS = 976
_TIMER = 977
_LINES = 4
_TIMER_LINE = 0
_MOST_INPUTS = 40


class Devices:
    """The four device places that are there, and the lines."""

    def __init__(self, inputs):
        if not are_inputs(inputs):
            raise InvalidInputs(inputs)
        self._left = list(inputs)
        self._outputs = []
        self._counted = 0
        self._timer = 0
        self._lines = [False] * _LINES

    def can(self, place):
        """Whether any value is a device place that is there."""
        return place in (_INPUT_OUTPUT, _LEFT, _STEPS, _TIMER)

    def read(self, place):
        """The word read at a place; only the next input changes by it."""
        self._need_there(place)
        if place == _INPUT_OUTPUT:
            return self._left.pop(0) if self._left else 0
        if place == _LEFT:
            return len(self._left)
        if place == _STEPS:
            return self._counted % WORDS
        return self._timer

    def write(self, place, word):
        """Write a word at a place."""
        self._need_there(place)
        need_word(word)
        if place == _INPUT_OUTPUT:
            self._outputs.append(word)
        if place == _TIMER:
            self._timer = word

    def raised(self, line):
        """The line is raised from now on."""
        need_line(line)
        self._lines[line] = True

    def counted(self):
        """One step more."""
        self._counted += 1
        if self._timer != 0 and self._counted % WORDS == self._timer:
            self._lines[_TIMER_LINE] = True

    def due(self, mask):
        """The line due by a mask, None without one."""
        need_word(mask)
        for line in range(_LINES):
            if self._lines[line] and (mask >> line) % 2 == 1:
                return line
        return None

    def lowered(self, line):
        """The line is raised no more."""
        need_line(line)
        if not self._lines[line]:
            raise NotRaised()
        self._lines[line] = False

    def outputs(self):
        """The list of the words that were written out."""
        return list(self._outputs)

    def left(self):
        """The list of the inputs left."""
        return list(self._left)

    @property
    def steps(self):
        """The number of steps."""
        return self._counted

    def told(self):
        """The tuple of inputs left, outputs, steps, timer, and the rising list of the raised lines."""
        lines = [line for line in range(_LINES) if self._lines[line]]
        return (list(self._left), list(self._outputs), self._counted, self._timer, lines)

    def copy(self):
        """Devices that are as these are now, and change apart from them."""
        made = Devices(self._left)
        made._outputs = list(self._outputs)
        made._counted = self._counted
        made._timer = self._timer
        made._lines = list(self._lines)
        return made

    def __eq__(self, other):
        return (
            isinstance(other, Devices)
            and self._left == other._left
            and self._outputs == other._outputs
            and self._counted == other._counted
            and self._timer == other._timer
            and self._lines == other._lines
        )

    def _need_there(self, place):
        if not self.can(place):
            raise InvalidPlace(place)


def are_inputs(value):
    """Whether any value is a list of words that devices may have as inputs."""
    return is_list(value) and len(value) <= _MOST_INPUTS and is_word_list(value)


def is_line(value):
    """Whether any value is a line."""
    return is_between(value, 0, _LINES - 1)


def need_line(value):
    """Refuse what is no line."""
    if not is_line(value):
        raise InvalidLine(value)
