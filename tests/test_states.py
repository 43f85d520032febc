"""States and their snapshots [43]."""

import unittest

from kit import NO_LISTS, NO_OBJECTS, NO_WORDS, Case
from orderlycore.devices import Devices
from orderlycore.errors import InvalidInputs, InvalidMemory, InvalidState
from orderlycore.instructions import encoded
from orderlycore.memory import Memory, memory_of
from orderlycore.plain import step, steps
from orderlycore.states import State, snapshot

# It changes registers, controls, memory, devices and the address, and halts.
CHANGES = [("lim", 1, 5), ("wrc", 1, 7), ("st", 1, 1, 15), ("lim", 2, 240), ("shl", 2, 2, 3), ("add", 0, 0, 0),
           ("halt",)]


def state_of(instructions, inputs=()):
    return State(memory_of([(0, [encoded(one) for one in instructions])]), inputs)


class AtFirst(Case):
    def test_all_of_it(self):
        state = State(Memory(), [])
        self.same([state.address, state.halted, state.steps, state.registers(), state.controls()],
                  [0, False, 0, [0] * 8, [1] + [0] * 7])
        self.assertTrue(state.memory() == Memory())
        self.assertTrue(state.devices() == Devices([]))
        self.same(snapshot(state), ([0] * 8, 0, [1] + [0] * 7, False, 0, [], ([], [], 0, 0, [])))

    def test_memory_and_inputs(self):
        state = State(memory=memory_of([(3, [7, 0, 8])]), inputs=(5, 65535))
        self.same(snapshot(state=state),
                  ([0] * 8, 0, [1] + [0] * 7, False, 0, [(3, 7), (5, 8)], ([5, 65535], [], 0, 0, [])))

    def test_forty_inputs(self):
        self.same(State(Memory(), list(range(40))).devices().left(), list(range(40)))


class Apart(Case):
    def test_the_memory_is_copied(self):
        memory, inputs = memory_of([(3, [7])]), [5]
        state = State(memory, inputs)
        memory.put(3, 9)
        inputs.append(6)
        self.same([state.memory().rows(), state.devices().left()], [[(3, 7)], [5]])
        state = state_of([("lim", 1, 5), ("st", 1, 1, 4)])
        memory = state.memory()
        steps(state, 2, [])
        self.same([memory.word(9), state.memory().word(9)], [0, 5])

    def test_what_is_returned_is_new(self):
        state = State(memory_of([(3, [7])]), [5])
        told = snapshot(state)
        state.registers()[0] = 9
        state.controls()[0] = 9
        state.memory().put(3, 9)
        state.devices().read(960)
        for one in (snapshot(state)[0], snapshot(state)[2], snapshot(state)[5], snapshot(state)[6][0]):
            one.clear()
        self.same(snapshot(state), told)

    def test_copies_change_apart(self):
        for many in range(8):
            state = state_of(CHANGES, [5])
            steps(state, many, [(0, 2)])
            told = snapshot(state)
            copied = state.copy()
            self.assertIsInstance(copied, State)
            self.assertTrue(copied == state)
            self.same(snapshot(copied), told)
            steps(copied, 9, [(many, 1)])
            self.same(snapshot(state), told)
            again = state.copy()
            steps(state, 9, [(many, 1)])
            self.same(snapshot(again), told)
            self.same(snapshot(state), snapshot(copied))
            self.assertTrue(state == copied)


class Alike(Case):
    def test_alike(self):
        one, other = state_of(CHANGES, [5]), state_of(CHANGES, (5,))
        for _ in CHANGES:
            self.alike(one, other)
            step(one)
            self.unlike(one, other)
            step(other)
        self.alike(one, other)
        self.same(one.halted, True)

    def test_each_part_counts(self):
        changes = [
            lambda one: one.set_register(5, 1), lambda one: one.set_control(7, 1), lambda one: one.go_to(1),
            lambda one: one.halt(), lambda one: one.write(900, 1), lambda one: one.raise_line(3),
            lambda one: one.write(977, 1), lambda one: one.write(960, 1), lambda one: one.read(960),
            lambda one: one.count_step(),
        ]
        for change in changes:
            one, other = state_of(CHANGES, [7]), state_of(CHANGES, [7])
            change(one)
            self.unlike(one, other)
            change(other)
            self.alike(one, other)

    def test_other_kinds(self):
        state = State(Memory(), [])
        self.unlike(state, *NO_OBJECTS, snapshot(state), Memory(), State)


class Refusals(Case):
    def test_memory(self):
        self.refused_each(InvalidMemory, "value", NO_OBJECTS + [Memory, Devices([])], lambda value: State(value, []))

    def test_inputs(self):
        wrong = NO_LISTS + [[1, word] for word in NO_WORDS] + [(word,) for word in NO_WORDS] + [[0] * 41, (0,) * 41]
        self.refused_each(InvalidInputs, "value", wrong, lambda value: State(Memory(), value))
        self.refused_in_sequence(State, (Memory(), InvalidMemory, None), ([], InvalidInputs, [65536]))

    def test_snapshot(self):
        self.refused_each(InvalidState, "value", NO_OBJECTS + [Memory(), State], snapshot)


if __name__ == "__main__":
    unittest.main()
