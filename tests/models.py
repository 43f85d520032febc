"""The plain meanings of parts, written once more and otherwise than in the package, to test against."""

NAMES = """
    add sub mul div and or xor shl shr low eq addi ld st jr lim lhi bz bnz jal sys rdc wrc ret halt nop
""".split()


def entry_of(word):
    """Of an entry: whether it is there, may be written, is the user's; and its frame."""
    signs = f"{word:016b}"
    return signs[0] == "1", signs[1] == "1", signs[2] == "1", int(signs[10:], 2)


def found(words, root, address, way, is_user):
    """What translating tells, by a list of memory's words."""
    own = {"fetch": 4, "load": 5, "store": 6}[way]
    leans = []
    place = root * 16 + address // 256
    for _ in range(2):
        if place > 959:
            return None, 7, leans
        leans.append(place)
        there, writable, users, frame = entry_of(words[place])
        if not there:
            return None, own, leans
        place = frame * 16 + address // 16 % 16
    if is_user and not users or way == "store" and not writable:
        return None, own, leans
    place = frame * 16 + address % 16
    if way == "fetch" and place > 959:
        return None, 7, leans
    return place, 0, leans


def found_straight(address, way):
    if address > 1023 or way == "fetch" and address > 959:
        return None, 7, []
    return address, 0, []


def parted_word(word):
    """The name, a, b and the number of an instruction, None if the word is bad."""
    number, rest = divmod(word, 2048)
    if not 1 <= number <= 26:
        return None
    name = NAMES[number - 1]
    a, low = divmod(rest, 256)
    b, last = divmod(low, 32)
    if number <= 11:
        return None if last > 7 else (name, a, b, last)
    if number <= 15:
        return name, a, b, last - 32 if last > 15 else last
    if number in (16, 17):
        return name, a, None, low
    if number <= 20:
        return name, a, None, low - 256 if low > 127 else low
    if number == 21:
        return None if a else (name, None, None, low)
    if number <= 23:
        return None if low > 7 else (name, a, None, low)
    return None if rest else (name, None, None, None)


class Machine:
    """The plain machine [44], [45], with all that it has as plain lists."""

    def __init__(self, words, inputs):
        self.words, self.inputs, self.outputs = list(words), list(inputs), []
        self.registers, self.controls = [0] * 8, [1] + [0] * 7
        self.address, self.done, self.timer, self.lines, self.halted = 0, 0, 0, set(), False

    def told(self):
        """As snapshot tells."""
        rows = [(place, word) for place, word in enumerate(self.words) if word]
        devices = (self.inputs, self.outputs, self.done, self.timer, sorted(self.lines))
        return self.registers, self.address, self.controls, self.halted, self.done, rows, devices

    def has(self, bit):
        return self.controls[0] >> bit & 1 == 1

    def look_up(self, address, way):
        place, cause, _ = found_straight(address, way)
        if self.has(4):
            place, cause, _ = found(self.words, self.controls[5] % 64, address, way, not self.has(0))
        if place is not None and place > 959 and place not in (960, 961, 976, 977):
            return None, 7
        return place, cause

    def trap(self, cause, home, bad, word=None):
        row = (self.address, word, cause) + (None,) * 4
        status = self.controls[0]
        self.controls[:4] = [status // 16 * 16 + 4 * (status % 4) + 1, cause, home, bad]
        self.address = self.controls[4] % 4096
        return row

    def step(self):
        row = self.row()
        self.done += 1
        if self.timer and self.done % 65536 == self.timer:
            self.lines.add(0)
        return row

    def row(self):
        here = self.address
        due = [line for line in sorted(self.lines) if self.controls[6] >> line & 1]
        if self.has(1) and due:
            self.lines.remove(due[0])
            return self.trap(16 + due[0], here, 0)
        place, cause = self.look_up(here, "fetch")
        if cause:
            return self.trap(cause, here, here)
        word = self.words[place]
        parts = parted_word(word)
        if parts is None:
            return self.trap(1, here, 0, word)
        if parts[0] in ("rdc", "wrc", "ret", "halt") and not self.has(0):
            return self.trap(2, here, 0, word)
        return self.do(word, *parts)

    def do(self, word, name, a, b, n):
        here, behind, registers = self.address, (self.address + 1) % 4096, self.registers
        which = value = place = stored = None
        x = 0 if b is None else registers[b]
        self.address = behind
        if NAMES.index(name) < 11:
            if name == "div" and registers[n] == 0:
                self.address = here
                return self.trap(3, here, 0, word)
            which, value = a, self.reckoned(name, x, registers[n])
        elif name in ("ld", "st"):
            asked = (x + n) % 4096
            place, cause = self.look_up(asked, "load" if name == "ld" else "store")
            if cause:
                self.address = here
                return self.trap(cause, here, asked, word)
            if name == "ld":
                which, value, place = a, self.read(place), None
            else:
                stored = registers[a]
                self.write(place, stored)
        elif name in ("addi", "lim", "lhi"):
            which, value = a, {"addi": x + n, "lim": n, "lhi": 256 * (n or 0) + registers[a] % 256}[name] % 65536
        elif name in ("jr", "jal"):
            which, value, self.address = a, behind, (x + n if name == "jr" else here + n) % 4096
        elif name in ("bz", "bnz"):
            if (registers[a] == 0) == (name == "bz"):
                self.address = (here + n) % 4096
        elif name == "sys":
            self.address = here
            return self.trap(8, behind, 0, word)
        elif name == "rdc":
            which, value = a, self.controls[n]
        elif name == "wrc":
            self.controls[n] = registers[a]
        elif name == "ret":
            self.controls[0] = self.controls[0] // 4 * 4 + self.controls[0] // 4 % 4
            self.address = self.controls[2] % 4096
        elif name == "halt":
            self.halted = True
        if which is not None:
            registers[which] = value
        return here, word, 0, which, value, place, stored

    def reckoned(self, name, x, y):
        worths = {"add": x + y, "sub": x - y, "mul": x * y, "and": x & y, "or": x | y, "xor": x ^ y,
                  "low": int(x < y), "eq": int(x == y), "div": x // (y or 1)}
        if name in worths:
            return worths[name] % 65536
        return 0 if y > 15 else x * 2 ** y % 65536 if name == "shl" else x // 2 ** y

    def read(self, place):
        if place < 960:
            return self.words[place]
        if place == 960:
            return self.inputs.pop(0) if self.inputs else 0
        return {961: len(self.inputs), 976: self.done % 65536, 977: self.timer}[place]

    def write(self, place, word):
        if place < 960:
            self.words[place] = word
        if place == 960:
            self.outputs.append(word)
        if place == 977:
            self.timer = word


class Lines:
    """A cache [5a1], [5a2], which goes by the times of the last uses."""

    def __init__(self, line, sets, ways):
        self.line, self.sets, self.ways, self.time = line, sets, ways, 0
        # Of each line's number its words, whether it is written, and the time of its last use.
        self.there = {}

    def row(self, at):
        return sorted((number for number in self.there if number % self.sets == at), key=lambda n: self.there[n][2])

    def told(self, number):
        return number * self.line, list(self.there[number][0]), self.there[number][1]

    def lines(self):
        return [[self.told(number) for number in self.row(at)] for at in range(self.sets)]

    def has(self, place):
        return place // self.line in self.there

    def word(self, place):
        return self.there[place // self.line][0][place % self.line] if self.has(place) else None

    def used(self, place):
        self.time += 1
        if self.has(place):
            self.there[place // self.line][2] = self.time
        return self.has(place)

    def enter(self, place, words):
        number, gone = place // self.line, None
        row = self.row(number % self.sets)
        if number not in row and len(row) == self.ways:
            gone = self.gone(row[0])
        self.there[number] = [list(words), False, 0]
        self.used(place)
        return gone

    def put(self, place, word, is_written):
        if self.has(place):
            line = self.there[place // self.line]
            line[0][place % self.line] = word
            line[1] = line[1] or is_written
        return self.has(place)

    def gone(self, number):
        told = self.told(number)
        del self.there[number]
        return told

    def out(self, place):
        return self.gone(place // self.line) if self.has(place) else None

    def out_at(self, at):
        row = self.row(at // self.ways)
        return self.gone(row[at % self.ways]) if at % self.ways < len(row) else None

    def cleaned(self):
        told = [line for row in self.lines() for line in row if line[2]]
        for line in self.there.values():
            line[1] = False
        return told


class Layers:
    """The hierarchy [5a3] to [5a7] over a list of words, by a list of whims."""

    def __init__(self, settings, words, whims):
        self.of = dict(settings.told())
        self.words, self.whims, self.taken = list(words), list(whims), 0
        self.fetches, self.reads = (Lines(self.of["line"], self.of["sets1"], self.of["ways1"]) for _ in range(2))
        self.second = Lines(self.of["line"], self.of["sets2"], self.of["ways2"])

    def take(self, many):
        self.taken += 1
        return self.whims[self.taken - 1] % many if self.taken <= len(self.whims) else 0

    def save(self, line):
        if line and line[2]:
            self.words[line[0]:line[0] + len(line[1])] = line[1]

    def into_second(self, place):
        if self.second.used(place):
            return 0
        first = place - place % self.of["line"]
        self.save(self.second.enter(place, self.words[first:first + self.of["line"]]))
        return self.of["waitm"]

    def got(self, cache, place):
        if self.of["twist"]:
            whim = self.take(4)
            if whim == 3:
                cache.out_at(self.take(self.of["sets1"] * self.of["ways1"]))
            if whim == 2:
                self.save(self.second.out_at(self.take(self.of["sets2"] * self.of["ways2"])))
        cycles = 1
        if not cache.used(place):
            cycles += self.of["wait2"] + self.into_second(place)
            cache.enter(place, self.second.there[place // self.of["line"]][0])
        if self.of["whim"]:
            cycles += self.take(self.of["whim"] + 1)
        return cache.word(place), cycles

    def fetched(self, place):
        return self.got(self.fetches, place)

    def read(self, place):
        return self.got(self.reads, place)

    def written(self, place, word):
        self.into_second(place)
        self.second.put(place, word, True)
        self.reads.put(place, word, False)
        self.fetches.out(place)

    def seen(self, place):
        return self.second.word(place) if self.second.has(place) else self.words[place]

    def lines(self):
        return self.fetches.lines(), self.reads.lines(), self.second.lines()
