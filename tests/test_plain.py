"""The plain machine: steps, what is done, runs and raises [44] to [46]; guarantees [5] to [7]."""

import random
import unittest

from kit import BIG, NO_COUNTS, NO_LISTS, NO_OBJECTS, NO_TUPLES, Case
from models import Machine
from orderlycore.devices import Devices
from orderlycore.errors import Halted, InvalidMany, InvalidRaised, InvalidState
from orderlycore.instructions import encoded
from orderlycore.memory import Memory, memory_of
from orderlycore.pages import laid, page_entry
from orderlycore.plain import step, steps
from orderlycore.states import State, snapshot

NONE = (None,) * 4


def words(*instructions):
    return [one if isinstance(one, int) else encoded(one) for one in instructions]


def state_of(*instructions, inputs=(), parts=()):
    return State(memory_of([(0, words(*instructions)), *parts]), inputs)


def with_registers(*instructions, **registers):
    """A state whose registers, told as r1=5, have words, at address 0."""
    state = state_of(*instructions)
    for name, word in registers.items():
        state.set_register(int(name[1:]), word)
    return state


def as_user(state, status=0):
    state.set_control(0, status)
    return state


class Examples(Case):
    def test_first(self):
        state = State(memory_of([(0, words(("lim", 1, 5), ("addi", 2, 1, -1), ("st", 2, 1, 2), ("halt",)))]), [])
        self.same(
            [step(state), steps(state, 9, []), state.registers()[:3], state.address, state.halted, state.steps,
             state.memory().word(7)],
            [(0, 33029, 0, 1, 5, None, None),
             [(1, 25151, 0, 2, 4, None, None), (2, 29218, 0, None, None, 7, 4), (3, 51200, 0, None, None, None, None)],
             [0, 5, 4], 4, True, 4, 4],
        )

    def test_second(self):
        state = State(memory_of([
            (0, words(("lim", 1, 9), ("wrc", 1, 4), ("lim", 2, 3), ("wrc", 2, 6), ("wrc", 2, 0), ("sys", 0))),
            (9, [encoded(("rdc", 3, 1)), encoded(("halt",))]),
        ]), [])
        self.same(
            [[row[2:5] for row in steps(state, 9, [(1, 1), (1, 3), (6, 0)])], state.controls(), state.registers()[3],
             state.steps],
            [[(0, 1, 9), (0, None, None), (0, 2, 3), (0, None, None), (0, None, None), (17, None, None), (0, 3, 17),
              (0, None, None)], [13, 17, 5, 0, 9, 0, 3, 0], 17, 8],
        )


# Of each operation an instruction at address 0, and what it does with r1 = 65535, r2 = 3, r3 = 2: the register that
# is written, its value, the place, the word stored, and where it goes on; or the cause, home and bad of a trap.
DOES = [
    (("add", 4, 1, 2), (4, 2, None, None, 1)),
    (("sub", 4, 2, 1), (4, 4, None, None, 1)),
    (("mul", 4, 1, 3), (4, 65534, None, None, 1)),
    (("div", 4, 1, 3), (4, 32767, None, None, 1)),
    (("and", 4, 2, 3), (4, 2, None, None, 1)),
    (("or", 4, 2, 3), (4, 3, None, None, 1)),
    (("xor", 4, 1, 2), (4, 65532, None, None, 1)),
    (("shl", 4, 1, 2), (4, 65528, None, None, 1)),
    (("shr", 4, 1, 2), (4, 8191, None, None, 1)),
    (("low", 4, 3, 2), (4, 1, None, None, 1)),
    (("eq", 4, 3, 2), (4, 0, None, None, 1)),
    (("addi", 4, 1, -16), (4, 65519, None, None, 1)),
    (("ld", 4, 2, -2), (4, 777, None, None, 1)),
    (("st", 2, 3, 15), (None, None, 17, 3, 1)),
    (("jr", 4, 2, 9), (4, 1, None, None, 12)),
    (("lim", 4, 255), (4, 255, None, None, 1)),
    (("lhi", 2, 255), (2, 65283, None, None, 1)),
    (("bz", 5, 100), (None, None, None, None, 100)),
    (("bnz", 1, -1), (None, None, None, None, 4095)),
    (("jal", 4, -128), (4, 1, None, None, 3968)),
    (("nop",), (None, None, None, None, 1)),
]
# Of those for the supervisor alone, likewise.
ALONE = [
    (("rdc", 4, 7), (4, 1234, None, None, 1)),
    (("wrc", 1, 7), (None, None, None, None, 1)),
    (("ret",), (None, None, None, None, 900)),
    (("halt",), (None, None, None, None, 1)),
]


def doing(instruction, status):
    state = with_registers(instruction, 777, r1=65535, r2=3, r3=2)
    for which, word in ((0, status), (2, 900), (4, 300), (7, 1234)):
        state.set_control(which, word)
    return state


class Operations(Case):
    def test_all_are_here(self):
        names = {one[0] for one, _ in DOES + ALONE} | {"sys"}
        self.assertEqual(len(names), 26)

    def done_as_told(self, instruction, told, status):
        state = doing(instruction, status)
        which, value, place, stored, behind = told
        self.same(step(state), (0, encoded(instruction), 0, which, value, place, stored))
        self.same(state.address, behind)
        registers = [0, 65535, 3, 2, 0, 0, 0, 0]
        if which is not None:
            registers[which] = value
        self.same([state.registers(), state.steps, state.devices().steps], [registers, 1, 1])
        memory = memory_of([(0, words(instruction, 777))])
        if place is not None:
            memory.put(place, stored)
        self.assertTrue(state.memory() == memory)
        return state

    def test_each_by_the_supervisor(self):
        for instruction, told in DOES + ALONE:
            with self.subTest(instruction=instruction):
                state = self.done_as_told(instruction, told, 1)
                self.same(state.halted, instruction == ("halt",))
                controls = {"wrc": [1, 0, 900, 0, 300, 0, 0, 65535], "ret": [0, 0, 900, 0, 300, 0, 0, 1234]}
                self.same(state.controls(), controls.get(instruction[0], [1, 0, 900, 0, 300, 0, 0, 1234]))

    def test_each_by_the_user(self):
        for instruction, told in DOES:
            with self.subTest(instruction=instruction):
                state = self.done_as_told(instruction, told, 0)
                self.same([state.halted, state.controls()], [False, [0, 0, 900, 0, 300, 0, 0, 1234]])

    def test_the_supervisors_own_by_the_user(self):
        for instruction, _ in ALONE:
            with self.subTest(instruction=instruction):
                state = doing(instruction, 2)
                self.same(step(state), (0, encoded(instruction), 2) + NONE)
                self.same([state.address, state.controls(), state.registers(), state.halted],
                          [300, [9, 2, 0, 0, 300, 0, 0, 1234], [0, 65535, 3, 2, 0, 0, 0, 0], False])

    def test_system_calls_of_both(self):
        for number in (0, 7, 255):
            for status, behind in ((0, 1), (1, 5), (2, 9), (3, 13), (15, 13), (32, 33), (65504 + 2, 65504 + 9)):
                state = doing(("sys", number), status)
                self.same(step(state), (0, encoded(("sys", number)), 8) + NONE)
                self.same([state.controls(), state.address], [[behind, 8, 1, 0, 300, 0, 0, 1234], 300])

    def test_registers_are_read_ahead(self):
        for instruction, told in ((("add", 1, 1, 1), 65534), (("jr", 2, 2, 1), 1), (("ld", 2, 2, -2), 777),
                                  (("lhi", 1, 0), 255), (("sub", 2, 2, 2), 0)):
            state = doing(instruction, 1)
            self.same(step(state)[3:5], (instruction[1], told))
        state = doing(("jr", 2, 2, 1), 1)
        step(state)
        self.same(state.address, 4)

    def test_register_nought_is_one_like_all_others(self):
        state = state_of(("lim", 0, 9), ("addi", 0, 0, 1), ("bz", 0, 5), ("st", 0, 0, 0))
        steps(state, 4, [])
        self.same([state.registers()[0], state.memory().word(10), state.address], [10, 10, 4])

    def test_branches(self):
        for name, word, behind in (("bz", 0, 20), ("bz", 1, 1), ("bz", 65535, 1), ("bnz", 0, 1), ("bnz", 1, 20),
                                   ("bnz", 32768, 20)):
            state = with_registers((name, 3, 20), r3=word)
            self.same([step(state)[2:], state.address], [(0,) + NONE, behind])

    def test_shifts_and_borrows(self):
        for name, x, y, told in (("shl", 1, 15, 32768), ("shl", 1, 16, 0), ("shl", 1, 65535, 0), ("shr", 65535, 15, 1),
                                 ("shr", 65535, 16, 0), ("sub", 0, 1, 65535), ("mul", 300, 300, 24464),
                                 ("add", 65535, 65535, 65534), ("div", 7, 2, 3), ("div", 0, 5, 0), ("low", 5, 5, 0),
                                 ("eq", 5, 5, 1)):
            self.same(step(with_registers((name, 5, 1, 2), r1=x, r2=y))[3:5], (5, told))

    def test_a_division_by_nought(self):
        for a, b in ((5, 0), (0, 0), (65535, 0)):
            state = with_registers(("nop",), ("div", 2, 1, 3), r1=a, r2=6, r3=b)
            state.set_control(4, 40)
            self.same(steps(state, 2, [])[1], (1, encoded(("div", 2, 1, 3)), 3) + NONE)
            self.same([state.controls(), state.address, state.registers()[2]], [[5, 3, 1, 0, 40, 0, 0, 0], 40, 6])

    def test_bad_words(self):
        for word in (0, 2047, 27 * 2048, 65535, 2379, 45064, 47112, 43264, 49153, 51201, 53249):
            state = state_of(("nop",), word)
            state.set_control(4, 4096 + 7)
            self.same(steps(state, 2, [])[1], (1, word, 1) + NONE)
            self.same([state.controls(), state.address], [[5, 1, 1, 0, 4103, 0, 0, 0], 7])
            state = as_user(state_of(word), 2)
            self.same([step(state), state.controls()[:4]], [(0, word, 1) + NONE, [9, 1, 0, 0]])

    def test_all_controls_are_read_and_written_whole(self):
        for which in range(8):
            state = with_registers(("wrc", 1, which), ("rdc", 2, which), r1=65529)
            rows = steps(state, 2, [])
            self.same([rows[0][2:], rows[1][2:5]], [(0,) + NONE, (0, 2, 65529)])
            controls = [1] + [0] * 7
            controls[which] = 65529
            self.same(state.controls(), controls)

    def test_the_status_that_is_written_counts_from_the_next_step_on(self):
        state = with_registers(("wrc", 1, 0), ("rdc", 2, 0), r1=65504)
        self.same([row[2] for row in steps(state, 2, [])], [0, 2])
        self.same(state.controls()[0], 65505)

    def test_a_return(self):
        state = with_registers(("ret",))
        for which, word in ((0, 65535 - 1 - 8), (2, 61440 + 9), (3, 8)):
            state.set_control(which, word)
        state.set_control(0, 65535 - 8)
        self.same([step(state), state.controls(), state.address],
                  [(0, encoded(("ret",)), 0) + NONE, [65535 - 8 - 2, 0, 61449, 8, 0, 0, 0, 0], 9])


class Addresses(Case):
    def test_from_memory_to_devices_and_beyond(self):
        state = state_of(parts=[(959, words(("nop",)))])
        state.go_to(959)
        state.set_control(4, 500)
        self.same(steps(state, 2, []), [(959, encoded(("nop",)), 0) + NONE, (960, None, 7) + NONE])
        self.same([state.controls(), state.address], [[5, 7, 960, 960, 500, 0, 0, 0], 500])

    def test_fetches_that_fail_straight(self):
        for address in (960, 961, 976, 977, 1023, 1024, 4095):
            state = state_of()
            state.go_to(address)
            self.same(step(state), (address, None, 7) + NONE)
            self.same(state.controls(), [5, 7, address, address, 0, 0, 0, 0])

    def test_ahead_of_nought_and_behind_the_last_one(self):
        state = state_of(("jal", 1, -1))
        self.same([row[:3] for row in steps(state, 2, [])], [(0, encoded(("jal", 1, -1)), 0), (4095, None, 7)])
        # A page leads the last address to a place; behind it comes address 0.
        memory = memory_of([(175, words(("jal", 3, 1)))])
        laid(memory, 2, [3, 4], [(255, 10, 0), (0, 11, 0)])
        memory.put(176, encoded(("halt",)))
        state = State(memory, [])
        state.set_control(0, 17)
        state.set_control(5, 2)
        state.go_to(4095)
        self.same(steps(state, 3, []), [(4095, encoded(("jal", 3, 1)), 0, 3, 0, None, None),
                                        (0, encoded(("halt",)), 0) + NONE])

    def test_sums_of_addresses_turn_over(self):
        for base, n, place in ((4095, 2, 1), (0, -16, None), (16, -16, 0), (65535, 10, 9), (8192 + 5, 0, 5),
                               (4096 + 959, 0, 959), (1023, 1, None), (4095, 0, None), (952, 7, 959)):
            state = with_registers(("st", 1, 2, n), r1=44, r2=base)
            row = step(state)
            if place is None:
                self.same(row[2:], (7,) + NONE)
                self.same(state.controls()[3], (base + n) % 4096)
            else:
                self.same(row[2:], (0, None, None, place, 44))
                self.same(state.memory().word(place), 44)
        state = with_registers(("jr", 1, 2, -3), r2=65536 - 4096 + 2)
        self.same([step(state)[3:5], state.address], [(1, 1), 4095])

    def test_loads_and_stores_beyond(self):
        for name in ("ld", "st"):
            for address in (962, 975, 978, 1023, 1024, 4095):
                state = with_registers(("nop",), (name, 1, 2, 0), r1=5, r2=address)
                self.same(steps(state, 2, [])[1][2:], (7,) + NONE)
                self.same([state.controls()[:4], state.registers()[1]], [[5, 7, 1, address], 5])

    def test_a_program_writes_itself(self):
        state = with_registers(("st", 1, 0, 1), ("halt",), r1=encoded(("lim", 3, 7)))
        self.same([row[3:] for row in steps(state, 2, [])],
                  [(None, None, 1, encoded(("lim", 3, 7))), (3, 7, None, None)])


class DevicePlaces(Case):
    def far(self, *instructions, inputs=()):
        """A state with r1 = 960 and r2 = 976."""
        state = state_of(*instructions, inputs=inputs)
        state.set_register(1, 960)
        state.set_register(2, 976)
        return state

    def test_inputs_and_outputs(self):
        state = self.far(("ld", 3, 1, 1), ("ld", 3, 1, 0), ("st", 3, 1, 0), ("ld", 3, 1, 0), ("ld", 3, 1, 0),
                         ("st", 2, 1, 1), ("ld", 3, 1, 1), inputs=[7, 65535])
        self.same([row[2:] for row in steps(state, 7, [])],
                  [(0, 3, 2, None, None), (0, 3, 7, None, None), (0, None, None, 960, 7), (0, 3, 65535, None, None),
                   (0, 3, 0, None, None), (0, None, None, 961, 976), (0, 3, 0, None, None)])
        self.same(state.devices().told(), ([], [7], 7, 0, []))

    def test_steps_and_timer(self):
        state = self.far(("ld", 3, 2, 0), ("nop",), ("ld", 3, 2, 0), ("st", 1, 2, 0), ("st", 1, 2, 1), ("ld", 3, 2, 1),
                         ("ld", 3, 2, 0))
        self.same([row[3:] for row in steps(state, 7, [])],
                  [(3, 0, None, None), NONE, (3, 2, None, None), (None, None, 976, 960), (None, None, 977, 960),
                   (3, 960, None, None), (3, 6, None, None)])

    def test_the_timer_raises_its_line(self):
        state = self.far(("lim", 3, 5), ("st", 3, 2, 1), ("nop",), ("nop",), ("nop",), ("nop",))
        state.set_control(0, 3)
        state.set_control(6, 1)
        state.set_control(4, 100)
        self.same([row[:3] for row in steps(state, 6, [])][4:], [(4, encoded(("nop",)), 0), (5, None, 16)])
        self.same([state.address, state.controls()[:4], state.devices().told()[4]], [100, [13, 16, 5, 0], []])

    def test_a_fault_reads_and_writes_nothing(self):
        memory = Memory()
        laid(memory, 2, [3], [(0, 10, 1), (1, 60, 1)])
        memory.put(160, encoded(("st", 1, 2, 0)))
        state = State(memory, [5])
        for which, word in ((0, 16), (5, 2)):
            state.set_control(which, word)
        state.set_register(2, 16)
        self.same(step(state), (0, encoded(("st", 1, 2, 0)), 6) + NONE)
        self.same(state.devices().told(), ([5], [], 1, 0, []))


class Paged(Case):
    def paged(self, rows, status, *instructions, at=160):
        """A state with pages from the root 2 on, at address 0, with instructions at a place."""
        memory = Memory()
        laid(memory, 2, [3, 4, 5], rows)
        for place, word in enumerate(words(*instructions), start=at):
            memory.put(place, word)
        state = State(memory, [6])
        state.set_control(0, status)
        state.set_control(5, 64 + 2)
        state.set_control(4, 30)
        return state

    def test_fetches(self):
        for flags, status, cause in ((1, 16, 0), (0, 16, 4), (0, 17, 0), (3, 17, 0), (2, 16, 4)):
            state = self.paged([(0, 10, flags)], status, ("nop",))
            row = step(state)
            self.same(row, (0, encoded(("nop",)) if cause == 0 else None, cause) + NONE)
            if cause:
                self.same(state.controls()[:4], [16 + 1 + status % 4 * 4, 4, 0, 0])

    def test_a_fetch_of_a_page_that_is_not_there_and_of_devices(self):
        state = self.paged([(1, 60, 3)], 17)
        self.same([step(state), state.address, state.controls()[:4]], [(0, None, 4) + NONE, 30, [21, 4, 0, 0]])
        state.go_to(16)
        self.same([step(state), state.controls()[1:4]], [(16, None, 7) + NONE, [7, 16, 16]])
        state.set_control(5, 60)
        state.go_to(17)
        self.same([step(state), state.controls()[1:4]], [(17, None, 7) + NONE, [7, 17, 17]])

    def test_loads_and_stores_by_rights(self):
        cases = [
            ("ld", 0, 16, 5), ("ld", 1, 16, 0), ("ld", 2, 16, 5), ("ld", 0, 17, 0), ("st", 1, 16, 6), ("st", 3, 16, 0),
            ("st", 2, 16, 6), ("st", 1, 17, 6), ("st", 2, 17, 0), ("st", 0, 17, 6),
        ]
        for name, flags, status, cause in cases:
            with self.subTest(name=name, flags=flags, status=status):
                state = self.paged([(0, 10, 1), (40, 20, flags)], status, (name, 1, 2, 3))
                state.set_register(1, 9)
                state.set_register(2, 640)
                row = step(state)
                if cause:
                    self.same(row[2:], (cause,) + NONE)
                    self.same(state.controls()[1:4], [cause, 0, 643])
                elif name == "ld":
                    self.same(row[2:], (0, 1, 0, None, None))
                else:
                    self.same(row[2:], (0, None, None, 323, 9))

    def test_device_places_by_pages(self):
        cases = [(0, "ld", (0, 1, 6, None, None)), (1, "ld", (0, 1, 1, None, None)), (2, "ld", (7,) + NONE),
                 (15, "st", (7,) + NONE), (0, "st", (0, None, None, 960, 0))]
        for n, name, told in cases:
            state = self.paged([(0, 10, 1), (7, 60, 3)], 16, (name, 1, 2, n))
            state.set_register(2, 112)
            self.same(step(state)[2:], told)
        # Rights come ahead of places that are not there.
        state = self.paged([(0, 10, 1), (7, 62, 0)], 16, ("ld", 1, 2, 0))
        state.set_register(2, 112)
        self.same(step(state)[2:], (5,) + NONE)

    def test_the_supervisor_stays_paged_in_a_trap(self):
        state = self.paged([(0, 10, 1), (1, 11, 0)], 16, ("sys", 0))
        state.set_control(4, 16)
        self.same([row[:3] for row in steps(state, 2, [])], [(0, encoded(("sys", 0)), 8), (16, 0, 1)])

    def test_the_tables_that_are_written_count_at_once(self):
        state = self.paged([(0, 10, 3), (1, 3, 3), (2, 11, 3)], 16, ("st", 1, 2, 2), ("ld", 3, 4, 0))
        state.set_register(1, page_entry(20, 1))
        state.set_register(2, 16)
        state.set_register(4, 32)
        state.write(320, 77)
        self.same([row[3:] for row in steps(state, 2, [])],
                  [(None, None, 50, page_entry(20, 1)), (3, 77, None, None)])

    def test_instructions_across_two_pages(self):
        state = self.paged([(0, 10, 1), (1, 30, 1)], 16, ("nop",), at=175)
        state.write(480, encoded(("lim", 1, 1)))
        state.go_to(15)
        self.same([row[:2] for row in steps(state, 2, [])],
                  [(15, encoded(("nop",))), (16, encoded(("lim", 1, 1)))])


class Interrupts(Case):
    def waiting(self, status, mask, *lines):
        state = state_of(*[("nop",)] * 20)
        for which, word in ((0, status), (4, 10), (6, mask)):
            state.set_control(which, word)
        for line in lines:
            state.raise_line(line)
        return state

    def test_on_and_off(self):
        for status, taken in ((0, False), (1, False), (2, True), (3, True), (65533, False), (65535 - 16, True)):
            state = self.waiting(status, 15, 2)
            row = step(state)
            self.same(row, (0, None, 18) + NONE if taken else (0, encoded(("nop",)), 0) + NONE)
            self.same(state.devices().told()[4], [] if taken else [2])

    def test_the_least_one_by_the_mask(self):
        for mask, line in ((15, 1), (65535, 1), (12, 2), (65520 + 8, 3), (10, 1), (65521, None), (0, None)):
            state = self.waiting(2, mask, 3, 1, 2)
            row = step(state)
            self.same(row[2], 0 if line is None else 16 + line)
            self.same(state.devices().told()[4], [one for one in (1, 2, 3) if one != line])

    def test_a_trap_of_an_interrupt(self):
        state = self.waiting(2, 15, 0)
        state.go_to(7)
        self.same([step(state), state.controls(), state.address, state.steps, state.devices().steps],
                  [(7, None, 16) + NONE, [9, 16, 7, 0, 10, 0, 15, 0], 10, 1, 1])

    def test_it_comes_ahead_of_all_that_the_step_would_do(self):
        for address in (0, 960, 4095):
            state = self.waiting(2, 15, 3)
            state.write(0, 0)
            state.go_to(address)
            self.same(step(state), (address, None, 19) + NONE)

    def test_a_handler_is_not_interrupted_till_it_returns(self):
        state = self.waiting(2, 15, 0, 1)
        for place, one in enumerate(words(("nop",), ("ret",)), start=10):
            state.write(place, one)
        self.same([row[2] for row in steps(state, 7, [])], [16, 0, 0, 17, 0, 0, 0])
        self.same([state.address, state.controls()[0]], [1, 10])

    def test_a_trap_out_of_a_handler(self):
        state = self.waiting(2, 15)
        state.write(10, encoded(("sys", 1)))
        state.write(0, encoded(("sys", 0)))
        self.same([row[:3] for row in steps(state, 2, [])],
                  [(0, encoded(("sys", 0)), 8), (10, encoded(("sys", 1)), 8)])
        self.same(state.controls(), [5, 8, 11, 0, 10, 0, 15, 0])


class Runs(Case):
    def test_raises_ahead_of_their_steps(self):
        state = state_of(*[("nop",)] * 9)
        told = []
        for number in range(6):
            steps(state, 1, [(2, 3), (4, 0), (2, 1), (4, 0), (9, 2)])
            told.append(state.devices().told()[4])
        self.same(told, [[], [], [1, 3], [1, 3], [0, 1, 3], [0, 1, 3]])

    def test_numbers_that_are_past_or_come_later_mean_nothing(self):
        state = state_of(*[("nop",)] * 9)
        steps(state, 3, [])
        steps(state, 2, [(0, 0), (1, 1), (2, 2), (5, 3), (BIG, 0)])
        self.same(state.devices().told(), ([], [], 5, 0, []))
        steps(state, 0, [(5, 3)])
        self.same(state.devices().told()[4], [])
        steps(state, 1, [(5, 3)])
        self.same(state.devices().told()[4], [3])

    def test_a_line_that_is_raised_again_behind_its_interrupt(self):
        state = state_of(*[("nop",)] * 9)
        for which, word in ((0, 3), (6, 15)):
            state.set_control(which, word)
        state.write(0, encoded(("ret",)))
        state.go_to(1)
        self.same([row[2] for row in steps(state, 6, [(0, 2), (0, 2), (3, 2)])], [18, 0, 0, 18, 0, 0])

    def test_a_halted_state_does_no_step_whatever_is_raised(self):
        state = state_of(("halt",))
        for which, word in ((0, 3), (6, 15)):
            state.set_control(which, word)
        self.same([steps(state, 9, [(1, 2)]), state.address, state.steps],
                  [[(0, encoded(("halt",)), 0) + NONE], 1, 1])
        told = snapshot(state)
        self.same([steps(state, 9, [(1, 2)]), steps(state, 0, [])], [[], []])
        self.refused(Halted, {}, step, state)
        self.same(snapshot(state), told)

    def test_the_step_that_halts_raises_its_lines(self):
        state = state_of(("halt",))
        steps(state, 5, [(0, 1), (1, 2)])
        self.same(state.devices().told()[4], [1])

    def test_none_and_many_steps(self):
        state = state_of(("addi", 1, 1, 1), ("jal", 2, -1))
        self.same([steps(state, 0, []), state.steps], [[], 0])
        self.same([len(steps(state, 100000, ())), state.steps, state.registers()[1], state.devices().steps],
                  [100000, 100000, 50000, 100000])

    def test_rows_do_not_hang_on_how_a_run_is_parted(self):
        raised = [(3, 1), (5, 0), (5, 2)]
        program = words(("lim", 1, 15), ("wrc", 1, 6), ("lim", 1, 3), ("wrc", 1, 0), ("addi", 2, 2, 1), ("jal", 3, -1))
        whole = State(memory_of([(0, program)]), [])
        rows = steps(whole, 20, raised)
        state = State(memory_of([(0, program)]), [])
        parts = [row for many in (1, 4, 0, 3, 12) for row in steps(state, many, raised)]
        self.same(parts, rows)
        self.assertTrue(state == whole)

    def test_what_is_passed_stays_and_arguments_by_name(self):
        raised = [(0, 1)]
        state = state_of(("nop",), ("nop",))
        self.same([steps(state=state, many=1, raised=raised), raised], [[(0, encoded(("nop",)), 0) + NONE], [(0, 1)]])
        self.same(step(state=state), (1, encoded(("nop",)), 0) + NONE)

    def test_sixty_raises(self):
        state = state_of(*[("nop",)] * 60)
        steps(state, 60, tuple((number, number % 4) for number in range(60)))
        self.same(state.devices().told()[4], [0, 1, 2, 3])


class AgainstTheModel(Case):
    """Random programs, tables, inputs and raises, row by row against the plain meaning written once more."""

    def program(self, dice):
        names = {"three": "add sub mul div and or xor shl shr low eq".split(), "near": "addi ld st jr".split()}
        found = []
        for _ in range(960):
            a, b, c = (dice.randrange(8) for _ in range(3))
            found.append(encoded(dice.choice([
                (dice.choice(names["three"]), a, b, c), (dice.choice(names["near"]), a, b, dice.randrange(-16, 16)),
                (dice.choice(["ld", "st"]), a, b, dice.randrange(-16, 16)),
                (dice.choice(["lim", "lhi"]), a, dice.randrange(256)),
                (dice.choice(["bz", "bnz", "jal"]), a, dice.randrange(-128, 128)),
                (dice.choice(["rdc", "wrc"]), a, dice.randrange(8)), ("sys", dice.randrange(256)),
                (dice.choice(["ret", "nop"]),), ("div", a, b, c),
            ])))
        for _ in range(dice.randrange(40)):
            found[dice.randrange(960)] = dice.choice([0, 65535, 51200, dice.randrange(65536)])
        return found

    def controls(self, dice):
        status = dice.randrange(65536) if dice.random() < 0.3 else dice.choice([0, 1, 2, 3, 17, 19, 16, 18])
        return [status, 0, dice.randrange(960), 0, dice.randrange(960), dice.randrange(60), dice.randrange(65536), 0]

    def test_rows_and_snapshots(self):
        dice = random.Random(6)
        causes = set()
        for _ in range(150):
            memory = memory_of([(0, self.program(dice)[:480]), (480, self.program(dice)[480:])])
            controls = self.controls(dice)
            frames = dice.sample(range(60), 17)
            if dice.random() < 0.8:
                pages = dice.sample(range(60), 55)
                laid(memory, frames[0], frames[1:], [(page, dice.randrange(64), dice.choice([1, 3, 3, 3, 0, 2]))
                                                     for page in pages])
                controls[5] = frames[0] + 64 * dice.randrange(100)
            inputs = [dice.randrange(65536) for _ in range(dice.randrange(6))]
            raised = [(dice.randrange(150), dice.randrange(4)) for _ in range(dice.randrange(12))]
            state, model = State(memory, inputs), Machine([memory.word(place) for place in range(960)], inputs)
            registers = [dice.choice([dice.randrange(65536), dice.randrange(1030), 976, 960]) for _ in range(8)]
            for which in range(8):
                state.set_register(which, registers[which])
                state.set_control(which, controls[which])
            model.registers, model.controls = list(registers), list(controls)
            wanted = []
            while len(wanted) < 150 and not model.halted:
                model.lines |= {line for number, line in raised if number == model.done}
                wanted.append(model.step())
            self.same(steps(state, 150, raised), wanted)
            self.same(snapshot(state), model.told())
            causes |= {row[2] for row in wanted}
        self.assertEqual(causes, {0, 1, 2, 3, 4, 5, 6, 7, 8, 16, 17, 18, 19})


class Refusals(Case):
    def test_states(self):
        wrong = NO_OBJECTS + [State, Memory(), Devices([])]
        self.refused_each(InvalidState, "value", wrong, step)
        self.refused_each(InvalidState, "value", wrong, lambda value: steps(value, 1, []))

    def test_many_and_raised(self):
        state = state_of(("nop",), ("halt",))
        told = snapshot(state)
        self.refused_each(InvalidMany, "value", NO_COUNTS + [100001, BIG], lambda value: steps(state, value, []))
        wrong = NO_LISTS + [[one] for one in NO_TUPLES + [(), (1,), (1, 2, 3), [1, 2]]]
        wrong += [[(0, 1), (one, 1)] for one in NO_COUNTS] + [((0, 1), (0, one)) for one in NO_COUNTS + [4, 5, BIG]]
        wrong += [[(0, 0)] * 61]
        self.refused_each(InvalidRaised, "value", wrong, lambda value: steps(state, 1, value))
        self.refused_in_sequence(steps, (state, InvalidState, None), (1, InvalidMany, -1),
                                 ([], InvalidRaised, [(0, 4)]))
        self.same(snapshot(state), told)


if __name__ == "__main__":
    unittest.main()
