"""CONTROLS: the eight WORDS that tell what the machine may do, and how it comes to a trap and back."""

from orderlycore.basics import is_list
from orderlycore.causes import need_cause
from orderlycore.errors import InvalidControls
from orderlycore.words import ADDRESSES, bits, is_word_list, need_address, with_bits

_CONTROLS = 8
_STATUS = 0
_CAUSE = 1
_HOME = 2
_BAD = 3
_ENTRY = 4
_ROOT = 5
_MASK = 6
# The bits of the status. Supervisor and on stand side by side, and so do the old ones.
_SUPERVISOR_BIT = 0
_ON_BIT = 1
_OLD_BIT = 2
_SIDE_BITS = 2
_PAGED_BIT = 4
_FRESH_STATUS = 1
_TRAPPED_SIDE = 1
_FRAME_BITS = 6
_LINES = 4


def need_controls(value):
    """Refuse what is no list of eight WORDS."""
    if not (is_list(value) and len(value) == _CONTROLS and is_word_list(value)):
        raise InvalidControls(value)


def fresh_controls():
    """The controls at first."""
    return [_FRESH_STATUS] + [0] * (_CONTROLS - 1)


def is_supervisor(controls):
    """Whether the supervisor is at work, else it is the user."""
    return _status_bit(controls, _SUPERVISOR_BIT)


def is_on(controls):
    """Whether interrupts are taken."""
    return _status_bit(controls, _ON_BIT)


def is_paged(controls):
    """Whether addresses are looked up by pages."""
    return _status_bit(controls, _PAGED_BIT)


def entry_address(controls):
    """The address to which traps go."""
    need_controls(controls)
    return controls[_ENTRY] % ADDRESSES


def home_address(controls):
    """The address to which it returns."""
    need_controls(controls)
    return controls[_HOME] % ADDRESSES


def root_frame(controls):
    """The frame of the root's table."""
    need_controls(controls)
    return bits(controls[_ROOT], 0, _FRAME_BITS)


def line_mask(controls):
    """The bits of the lines that may interrupt."""
    need_controls(controls)
    return bits(controls[_MASK], 0, _LINES)


def line_taken(controls, devices):
    """The line of devices whose interrupt is taken now, None without one."""
    return devices.due(line_mask(controls)) if is_on(controls) else None


def trapped(controls, cause, home, bad):
    """The controls behind a trap."""
    need_controls(controls)
    need_cause(cause)
    need_address(home)
    need_address(bad)
    told = list(controls)
    side = bits(controls[_STATUS], _SUPERVISOR_BIT, _SIDE_BITS)
    told[_STATUS] = _with_side(with_bits(controls[_STATUS], _OLD_BIT, _SIDE_BITS, side), _TRAPPED_SIDE)
    told[_CAUSE] = cause
    told[_HOME] = home
    told[_BAD] = bad
    return told


def returned(controls):
    """The controls behind a return."""
    need_controls(controls)
    told = list(controls)
    told[_STATUS] = _with_side(controls[_STATUS], bits(controls[_STATUS], _OLD_BIT, _SIDE_BITS))
    return told


def _status_bit(controls, bit):
    need_controls(controls)
    return bits(controls[_STATUS], bit, 1) == 1


def _with_side(status, side):
    """The status with supervisor and on anew."""
    return with_bits(status, _SUPERVISOR_BIT, _SIDE_BITS, side)
