"""The PREDICTOR: at which address the machine is expected to go on."""

from orderlycore.effects import next_address, target_of
from orderlycore.instructions import decoded, sort_of, writes_of
from orderlycore.settings import need_settings
from orderlycore.whims import need_whims
from orderlycore.words import ADDRESSES, need_address, need_word

_FIRST_COUNTER = 1
_MOST_COUNTER = 3
_TAKEN_COUNTER = 2
# Calls keep in this register where they come from, and what goes back to it just so is a return.
_CALL_REGISTER = 7
_RETURN_PARTS = (7, 0)
# With the setting twist one of so many whims lets anything be expected.
_TWISTS = 4
_TWIST = 3


class Predictor:
    """Counters for branches, targets and returns for jumps."""

    def __init__(self, settings, whims):
        need_settings(settings)
        need_whims(whims)
        self._settings = settings
        self._whims = whims
        self._counters = [_FIRST_COUNTER] * settings.value("counters")
        self._targets = [None] * settings.value("targets")
        self._returns = []

    def expected(self, address, word):
        """The address at which the machine is expected to go on behind a word at an address."""
        need_address(address)
        need_word(word)
        instruction = decoded(word)
        if instruction is None or sort_of(instruction) not in ("branch", "jump"):
            return next_address(address)
        guess = self._guess(address, instruction)
        if writes_of(instruction) == _CALL_REGISTER:
            self._keep_return(next_address(address))
        if self._settings.value("twist") == 1 and self._whims.take(_TWISTS) == _TWIST:
            return self._whims.take(ADDRESSES)
        return guess

    def learned(self, address, word, behind):
        """It is known to which address a word at an address went."""
        need_address(address)
        need_word(word)
        need_address(behind)
        instruction = decoded(word)
        if instruction is None:
            return
        if sort_of(instruction) == "branch":
            self._count(address, behind == target_of(address, instruction))
        elif instruction[0] == "jr":
            self._targets[address % len(self._targets)] = (address, behind)

    def told(self):
        """The tuple of the lists of the counters, of the targets (None where none is known), and of the returns."""
        return (list(self._counters), list(self._targets), list(self._returns))

    def copy(self, whims):
        """A predictor that is as this one is now, changes apart from it, and takes these whims."""
        made = Predictor(self._settings, whims)
        made._counters = list(self._counters)
        made._targets = list(self._targets)
        made._returns = list(self._returns)
        return made

    def _guess(self, address, instruction):
        name = instruction[0]
        if name == "jr":
            return self._guess_behind_register(address, instruction)
        if name == "jal" or self._counters[address % len(self._counters)] >= _TAKEN_COUNTER:
            return target_of(address, instruction)
        return next_address(address)

    def _guess_behind_register(self, address, instruction):
        if instruction[2:] == _RETURN_PARTS and self._returns:
            return self._returns.pop()
        target = self._targets[address % len(self._targets)]
        if target is not None and target[0] == address:
            return target[1]
        return next_address(address)

    def _keep_return(self, address):
        self._returns.append(address)
        if len(self._returns) > self._settings.value("returns"):
            self._returns.pop(0)

    def _count(self, address, is_taken):
        at = address % len(self._counters)
        if is_taken:
            self._counters[at] = min(self._counters[at] + 1, _MOST_COUNTER)
        else:
            self._counters[at] = max(self._counters[at] - 1, 0)
