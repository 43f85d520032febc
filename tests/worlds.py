"""Random worlds for a core: settings, whims, programs in a memory, inputs and raises."""

import random

from orderlycore.instructions import encoded
from orderlycore.memory import Memory
from orderlycore.pages import laid, page_entry
from orderlycore.settings import Settings
from orderlycore.whims import Whims

# Of each setting the least and the greatest value, as the document tells them.
BOUNDS = {
    "fetch": (1, 4), "issue": (1, 4), "retire": (1, 4), "reorder": (2, 32), "stations": (1, 16), "loads": (1, 8),
    "stores": (1, 8), "physical": (9, 48), "queue": (1, 8), "line": (1, 16), "sets1": (1, 8), "ways1": (1, 4),
    "sets2": (1, 16), "ways2": (1, 4), "wait2": (0, 9), "waitm": (0, 20), "times": (1, 8), "over": (1, 16),
    "buffer": (1, 16), "targets": (1, 16), "counters": (1, 32), "returns": (0, 8), "whim": (0, 4), "twist": (0, 1),
}
LEAST = [(name, bounds[0]) for name, bounds in BOUNDS.items()]
GREATEST = [(name, bounds[1]) for name, bounds in BOUNDS.items()]
# Nothing has to be waited for, and much may be in flight.
WIDE = [("wait2", 0), ("waitm", 0), ("line", 16), ("fetch", 4), ("issue", 4), ("retire", 4), ("reorder", 32),
        ("stations", 16), ("loads", 8), ("stores", 8), ("physical", 48), ("queue", 8)]
THREES = "add sub mul div and or xor shl shr low eq".split()

ENTRY, MAIN, DATA, ROOT = 32, 64, 640, 56
TABLES = [57, 58, 59, 55]


def some_settings(dice):
    """Settings each of which is left out, at one of its ends, or anywhere."""
    told = []
    for name, (least, greatest) in BOUNDS.items():
        value = dice.choice([least, greatest, dice.randint(least, greatest), dice.randint(least, greatest), None])
        if name == "line" and value is not None:
            value = dice.choice([1, 2, 4, 8, 16])
        if value is not None:
            told.append((name, value))
    return told


def words(*instructions):
    """The words of instructions; a number is a word itself."""
    return [one if isinstance(one, int) else encoded(one) for one in instructions]


def put_all(memory, first, found):
    for place, word in enumerate(found, start=first):
        memory.put(place, word)


def set_word(which, word):
    """Two instructions by which a register gets a word."""
    return [("lim", which, word % 256), ("lhi", which, word // 256)]


def handler(dice):
    """What stands at the entry: behind interrupts it goes back, behind all else to the address behind home.

    From behind the main part it goes to the main part again.
    """
    found = [("rdc", 6, 1), ("lim", 5, 16), ("low", 5, 6, 5), ("rdc", 6, 2), ("add", 6, 6, 5)]
    found += set_word(5, MAIN + 400) + [("low", 5, 6, 5), ("bnz", 5, 2), ("lim", 6, MAIN), ("wrc", 6, 2)]
    if dice.random() < 0.2:
        found.insert(0, dice.choice([("div", 5, 1, 5), ("nop",), ("ld", 5, 1, 0), ("st", 6, 1, 1)]))
    return words(*found, ("ret",))


def start(dice, is_paged):
    """What stands at 0: registers and controls are set, then it goes on at MAIN."""
    bases = [DATA, DATA + 3, dice.choice([960, 961, 976, 977, DATA + 2]), dice.choice([MAIN, MAIN + 24, DATA])]
    if is_paged and dice.random() < 0.5:
        bases[3] = dice.choice([ROOT * 16, TABLES[0] * 16, TABLES[2] * 16 + 8, TABLES[3] * 16 + 12])
    found = []
    for which, word in ((5, ROOT + 64 * dice.randrange(9)), (4, ENTRY), (6, dice.randrange(16))):
        found += set_word(5, word) + [("wrc", 5, which)]
    for which, word in enumerate(bases, start=1):
        found += set_word(which, word)
    status = dice.choice([0, 1, 2, 2, 3, 3]) + (16 if is_paged else 0)
    return words(*found, ("lim", 5, status), ("wrc", 5, 0), ("jal", 5, MAIN - len(found) - 2))


def inner(dice):
    """An instruction of the main part. The registers 1 to 4 lead to data, devices, code and tables."""
    a, b, c = dice.choice([0, 5, 6, 7, 7]), dice.randrange(8), dice.randrange(8)
    base, near = dice.choice([1, 1, 1, 1, 2, 2, 2, 4]), dice.randrange(-2, 3)
    return dice.choice([
        (dice.choice(["ld", "ld", "st"]), dice.choice([0, 5, 6, 7]), 3, dice.choice([0, 0, 1, near])),
        (dice.choice(THREES), a, b, c), (dice.choice(THREES), a, b, c), ("addi", a, b, dice.randrange(-16, 16)),
        ("ld", a, base, near), ("ld", a, base, near), ("st", b, base, near), ("st", b, 1, near), ("nop",),
        ("lim", a, dice.randrange(256)), ("mul", a, b, c), ("div", a, 1, dice.choice([2, 3, 4, c])),
        (dice.choice(["bz", "bnz"]), dice.choice([0, 5, 6, 7]), dice.choice([1, 2, 3, 6, 9])),
    ])


def rare(dice):
    """One or more instructions that are not met so often."""
    return dice.choice([
        [("sys", dice.randrange(256))], [("rdc", 6, dice.randrange(8))], [("wrc", 0, 7)], [("addi", 1, 1, 1)],
        [("addi", dice.choice([1, 2, 4]), dice.choice([1, 2, 4]), dice.choice([-1, 1]))],
        [("jr", dice.choice([0, 7]), 7, 0)], [("lim", 5, dice.randrange(16)), ("wrc", 5, 6)], [("rdc", 5, 2), ("ret",)],
        [("lim", 5, dice.randrange(2, 40)), ("st", 5, 3, 0)],
    ])


def late_store(dice):
    """A store whose place is known late, and a load of the same place or of one beside it."""
    near = dice.randrange(-2, 3)
    slow = dice.choice([[("mul", 5, 1, 0)], [("div", 5, 1, 0)], [("mul", 5, 1, 0), ("mul", 5, 5, 0)],
                        [("st", 1, 1, 3), ("ld", 5, 1, 3)]])
    behind = [("ld", 7, 1, near), ("ld", 6, 1, near), ("st", 6, 1, near + 1), ("ld", 7, 1, dice.randrange(-2, 3))]
    return [("lim", 0, 1)] + slow + [("st", 6, 5, near)] + behind[:dice.randrange(1, 5)]


def call(dice):
    """A call of the instruction behind the next ones, and the return there."""
    return [("jal", 7, 3), inner(dice), ("jal", 0, 2), ("jr", 0, 7, 0)]


def loop(dice):
    """A loop of a few rounds."""
    found = [one for _ in range(dice.randrange(1, 4)) for one in dice.choice([[inner(dice)], late_store(dice)])]
    found = [("lim", 0, dice.randrange(1, 5)), ("or", 3, 3, 3)] + found
    return [("lim", 6, dice.randrange(1, 6)), ("st", 6, 1, 4)] + found + [
        ("ld", 6, 1, 4), ("addi", 6, 6, -1), ("st", 6, 1, 4), ("bnz", 6, -len(found) - 3)]


def write_ahead(dice, at):
    """An instruction is copied to a place a little further on, behind which it is fetched already."""
    target = at + 4 + dice.randrange(-3, 9)
    return set_word(5, target) + [("ld", 0, 5, dice.randrange(-3, 4)), ("st", 0, 5, 0)]


def main_part(dice, at, many):
    """So many words of a program that stands from a place on."""
    found = []
    while len(found) < many:
        turn = dice.random()
        if turn < 0.55:
            found.append(inner(dice))
        elif turn < 0.7:
            found += late_store(dice)
        elif turn < 0.8:
            found += loop(dice)
        elif turn < 0.87:
            found += call(dice)
        elif turn < 0.93:
            found += write_ahead(dice, at + len(found))
        else:
            found += rare(dice)
    return words(*found[:many])


def tame(dice):
    """A memory with a program that gets on: its handler goes behind what fails."""
    memory, is_paged = Memory(), dice.random() < 0.7
    put_all(memory, MAIN, main_part(dice, MAIN, 400))
    put_all(memory, MAIN + 400, words(("jal", 7, -128)))
    for _ in range(dice.choice([0, 0, 0, 5])):
        memory.put(MAIN + dice.randrange(60), dice.choice([0, 65535, encoded(("halt",)), dice.randrange(65536)]))
    put_all(memory, DATA, [dice.randrange(65536) for _ in range(40)])
    memory.put(DATA + dice.randrange(8), encoded(("nop",)))
    flags = [dice.choice([3] * 12 + [0, 1, 2]) for _ in range(64)]
    pages = [page for page in range(64) if page not in (50, 51, 52, 53)]
    # The pages of the tables and of devices may be anywhere, code mostly at its own places.
    frames = {page: page if dice.random() < 0.95 else dice.randrange(64) for page in pages}
    frames.update({page: page for page in range(8)})
    laid(memory, ROOT, TABLES, [(page, frames[page], flags[page] if page > 3 else 3) for page in pages])
    if dice.random() < 0.3:
        memory.put(TABLES[0] * 16 + 15, page_entry(MAIN // 16, 3))
    put_all(memory, 0, start(dice, is_paged))
    put_all(memory, ENTRY, handler(dice))
    return memory


def wild(dice):
    """A memory of any words, with tables of any pages."""
    memory = Memory()
    put_all(memory, 0, [dice.choice([encoded(inner(dice)), dice.randrange(65536)]) for _ in range(960)])
    frames = dice.sample(range(60), 17)
    laid(memory, frames[0], frames[1:], [(page, dice.randrange(64), dice.choice([1, 3, 3, 3, 0, 2]))
                                         for page in dice.sample(range(60), 55)])
    found = set_word(1, frames[0]) + [("wrc", 1, 5)] + set_word(1, dice.randrange(960)) + [("wrc", 1, 4)]
    for which in range(2, 8):
        found += set_word(which, dice.choice([dice.randrange(65536), dice.randrange(1030), 960, 976, 90]))
    found += [("lim", 1, dice.randrange(16)), ("wrc", 1, 6), ("lim", 1, dice.randrange(32)), ("wrc", 1, 0)]
    put_all(memory, 0, words(*found))
    return memory


def world(seed):
    """What a core is made with: settings, whims, memory, inputs, raises."""
    dice = random.Random(seed)
    settings = Settings(dice.choice([[], LEAST, GREATEST, WIDE] + [some_settings(dice) for _ in range(8)]))
    whims = Whims([dice.randrange(5000) for _ in range(dice.choice([0, 0, 40, 200]))])
    memory = tame(dice) if dice.random() < 0.9 else wild(dice)
    inputs = [dice.randrange(65536) for _ in range(dice.choice([0, 3, 20]))]
    span = dice.choice([60, 300, 1500])
    raises = [(dice.randrange(span), dice.randrange(4)) for _ in range(dice.choice([0, 3, 12, 40]))]
    return settings, whims, memory, inputs, raises
