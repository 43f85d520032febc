"""Entries, tables, translating, straight, mapped, laying [3b1] to [3b6]."""

import random
import unittest

from kit import (BIG, NO_ADDRESSES, NO_COUNTS, NO_FRAMES, NO_LISTS, NO_OBJECTS, NO_PLACES, NO_TUPLES, NO_WAYS,
                 NO_WORDS, Case)
from models import entry_of, found, found_straight
from orderlycore.errors import (FewTables, InvalidAddress, InvalidFlags, InvalidFrame, InvalidMemory, InvalidPlace,
                                InvalidRows, InvalidSide, InvalidTables, InvalidWay, InvalidWord)
from orderlycore.memory import Memory, memory_of
from orderlycore.pages import (by_entry, entry_parts, laid, leaning, mappings, page_entry, pages_of, straight,
                               translated)

WAYS = ("fetch", "load", "store")
OWN = {"fetch": 4, "load": 5, "store": 6}
SIDES = (True, False)
NO_FLAGS = NO_COUNTS + [4, 5, 8192, BIG]
NO_SIDES = [None, 0, 1, -1, BIG, "", "user", "True", [], [True], (), (True,), {}, len]
NO_MEMORY_FRAMES = NO_COUNTS + [60, 61, 63, 64, BIG]


def words_of(memory):
    return [memory.word(place) for place in range(960)]


def memory_with(words):
    made = Memory()
    for place, word in enumerate(words):
        made.put(place, word)
    return made


def any_entry(dice):
    """An entry, there more often than not, now and then with a frame of devices."""
    word = dice.randrange(65536)
    if dice.random() < 0.7:
        word |= 32768
    if dice.random() < 0.7:
        word = word // 64 * 64 + dice.randrange(60)
    return word


def any_memory(dice):
    return memory_with([any_entry(dice) for _ in range(960)])


class Examples(Case):
    def test_laid_and_translated(self):
        store = Memory()
        self.same(
            [laid(store, 2, [3, 4], [(0, 10, 3), (5, 61, 0), (20, 11, 1)]), store.word(33), store.word(48),
             page_entry(61, 0), entry_parts(40971), by_entry(32829, 81, "fetch", False)],
            [None, 32772, 57354, 32829, (True, 1, 11), (None, 7)],
        )
        self.same(
            [translated(store, 2, 7, "load", True), translated(store, 2, 81, "load", False),
             translated(store, 2, 81, "load", True), translated(store, 2, 320, "store", False),
             translated(store, 2, 512, "fetch", False), translated(store, 60, 0, "load", False),
             straight(960, "store"), straight(960, "fetch"), mappings(store, 2), pages_of(store, 2, 61),
             leaning(store, 2, 68)],
            [(167, 0, [32, 48]), (977, 0, [32, 53]), (None, 5, [32, 53]), (None, 6, [33, 68]), (None, 4, [34]),
             (None, 7, []), (960, 0, []), (None, 7, []), [(0, 10, 3), (5, 61, 0), (20, 11, 1)], [5], [20]],
        )


class Entries(Case):
    def test_all_frames_and_flags(self):
        for frame in range(64):
            for flags, more in ((0, 0), (1, 8192), (2, 16384), (3, 24576)):
                self.same(page_entry(frame, flags), 32768 + more + frame)
                self.same(entry_parts(page_entry(frame, flags)), (True, flags, frame))

    def test_parts_of_what_is_not_there(self):
        self.same([entry_parts(0), entry_parts(32767), entry_parts(8192 + 61), entry_parts(16384)],
                  [(False, 0, 0), (False, 3, 63), (False, 1, 61), (False, 2, 0)])

    def test_the_bits_12_to_6_count_for_nothing(self):
        for word in (0, 32768 + 61, 57354, 40971, 49162, 24586):
            for more in range(0, 8192, 64):
                self.same(entry_parts(word + more), entry_parts(word))
                for way in WAYS:
                    for side in SIDES:
                        self.same(by_entry(word + more, 81, way, side), by_entry(word, 81, way, side))

    def test_rights(self):
        for flags in range(4):
            for way in WAYS:
                for side in SIDES:
                    lets = (flags % 2 == 1 or not side) and (flags > 1 or way != "store")
                    wanted = (171, 0) if lets else (None, OWN[way])
                    self.same(by_entry(page_entry(10, flags), 11, way, side), wanted)
                    self.same(by_entry(page_entry(10, flags) - 32768, 11, way, side), (None, OWN[way]))

    def test_the_last_digit_of_the_address_counts(self):
        for address in range(0, 4096, 13):
            self.same(by_entry(page_entry(59, 3), address, "fetch", True), (944 + address % 16, 0))

    def test_frames_of_devices(self):
        for frame in (59, 60, 61, 62, 63):
            for address in (0, 1, 15, 4095):
                place = frame * 16 + address % 16
                for way in ("load", "store"):
                    self.same(by_entry(page_entry(frame, 3), address, way, True), (place, 0))
                wanted = (place, 0) if frame < 60 else (None, 7)
                self.same(by_entry(page_entry(frame, 3), address, "fetch", False), wanted)
        # What may not be fetched by its rights fails by these first.
        self.same(by_entry(page_entry(60, 2), 0, "fetch", True), (None, 4))


class Translating(Case):
    def test_against_the_model(self):
        dice = random.Random(1)
        causes = set()
        for _ in range(12):
            memory = any_memory(dice)
            words = words_of(memory)
            for _ in range(300):
                root, address = dice.choice([dice.randrange(64), dice.randrange(60)]), dice.randrange(4096)
                way, side = dice.choice(WAYS), dice.random() < 0.5
                told = translated(memory, root, address, way, side)
                self.same(told, found(words, root, address, way, side))
                causes.add((told[1], len(told[2])))
            self.assertEqual(words_of(memory), words)
        self.assertLessEqual({(0, 2), (4, 1), (4, 2), (5, 1), (5, 2), (6, 1), (6, 2), (7, 0), (7, 1), (7, 2)}, causes)

    def test_it_hangs_on_the_words_at_the_leans_alone(self):
        dice = random.Random(2)
        for _ in range(60):
            memory, other = any_memory(dice), any_memory(dice)
            root, address, way = dice.randrange(64), dice.randrange(4096), dice.choice(WAYS)
            told = translated(memory, root, address, way, True)
            for place in told[2]:
                other.put(place, memory.word(place))
            self.same(translated(other, root, address, way, True), told)

    def test_first_entries_beyond_memory(self):
        memory = memory_with([page_entry(place % 60, 3) for place in range(960)])
        for way in WAYS:
            for side in SIDES:
                for root in (60, 61, 62, 63):
                    for address in (0, 255, 4095):
                        self.same(translated(memory, root, address, way, side), (None, 7, []))
                self.same(translated(memory, 59, 4095, way, side)[2], [959, (959 % 60) * 16 + 15])

    def test_first_entries_that_are_not_there(self):
        memory = memory_of([(32, [32767] * 16)])
        for way in WAYS:
            for side in SIDES:
                self.same(translated(memory, 2, 4095, way, side), (None, OWN[way], [47]))
                self.same(translated(memory, 2, 255, way, side), (None, OWN[way], [32]))

    def test_of_first_entries_bit_15_and_the_frame_alone_count(self):
        for first in range(32768 + 3, 65536, 64):
            memory = memory_of([(32, [first]), (48, [page_entry(7, 3)])])
            self.same(translated(memory, 2, 5, "store", True), (117, 0, [32, 48]))

    def test_second_entries_beyond_memory(self):
        for frame in (60, 63):
            memory = memory_of([(32, [page_entry(frame, 3)])])
            for way in WAYS:
                for side in SIDES:
                    self.same(translated(memory, 2, 0, way, side), (None, 7, [32]))
        memory = memory_of([(32, [page_entry(59, 0)]), (959, [page_entry(1, 1)])])
        self.same(translated(memory, 2, 255, "load", True), (31, 0, [32, 959]))

    def test_second_entries_that_are_not_there_or_do_not_let(self):
        for second, causes in ((0, (4, 5, 6)), (24579, (4, 5, 6)), (49152, (4, 5, 6)), (40960, (0, 0, 6))):
            memory = memory_of([(32, [page_entry(3, 0)]), (49, [second])])
            for way, cause in zip(WAYS, causes):
                place = None if cause else 2
                self.same(translated(memory, 2, 18, way, True), (place, cause, [32, 49]))

    def test_supervisors_need_no_users_entry(self):
        memory = memory_of([(32, [page_entry(3, 0)]), (48, [page_entry(4, 0), page_entry(4, 2)])])
        self.same([translated(memory, 2, 0, way, False) for way in WAYS],
                  [(64, 0, [32, 48]), (64, 0, [32, 48]), (None, 6, [32, 48])])
        self.same(translated(memory, 2, 16, "store", False), (64, 0, [32, 49]))

    def test_frames_of_devices_and_beyond(self):
        memory = memory_of([(32, [page_entry(3, 0)]), (48, [page_entry(60, 3), page_entry(63, 3)])])
        self.same([translated(memory, 2, 0, way, True) for way in WAYS],
                  [(None, 7, [32, 48]), (960, 0, [32, 48]), (960, 0, [32, 48])])
        self.same(translated(memory, 2, 31, "load", True), (1023, 0, [32, 49]))

    def test_a_table_may_lead_to_itself(self):
        memory = memory_of([(32, [page_entry(2, 3)])])
        self.same(translated(memory, 2, 5, "store", True), (37, 0, [32, 32]))
        self.same([mappings(memory, 2), leaning(memory, 2, 32)], [[(0, 2, 3)], list(range(16))])

    def test_what_is_returned_is_new(self):
        memory = memory_of([(32, [page_entry(3, 0)])])
        translated(memory, 2, 0, "load", True)[2].clear()
        self.same(translated(memory, 2, 0, "load", True), (None, 5, [32, 48]))


class Straight(Case):
    def test_all_addresses(self):
        for address in list(range(0, 4096, 7)) + [959, 960, 961, 976, 977, 1023, 1024, 4095]:
            for way in WAYS:
                self.same(straight(address, way), found_straight(address, way))

    def test_edges(self):
        self.same([straight(959, "fetch"), straight(960, "fetch"), straight(960, "load"), straight(1023, "store"),
                   straight(1024, "load"), straight(1024, "store"), straight(4095, "load"), straight(0, "fetch")],
                  [(959, 0, []), (None, 7, []), (960, 0, []), (1023, 0, []), (None, 7, []), (None, 7, []),
                   (None, 7, []), (0, 0, [])])


class Laying(Case):
    def lay(self, root, tables, rows):
        """Lay over a memory that is full; tell its words behind."""
        memory = memory_with([40000 + place for place in range(960)])
        self.assertIsNone(laid(memory, root, tables, rows))
        return words_of(memory)

    def wanted(self, root, tables, rows):
        words = [40000 + place for place in range(960)]
        numbers = sorted({row[0] // 16 for row in rows})
        used = tables[:len(numbers)]
        for frame in [root, *used]:
            words[frame * 16:frame * 16 + 16] = [0] * 16
        for number, frame in zip(numbers, used):
            words[root * 16 + number] = 32768 + frame
        for page, frame, flags in rows:
            words[used[numbers.index(page // 16)] * 16 + page % 16] = 32768 + flags * 8192 + frame
        return words

    def test_no_rows(self):
        self.same(self.lay(0, [], []), [0] * 16 + [40000 + place for place in range(16, 960)])
        self.same(self.lay(59, [3, 4], ()), self.wanted(59, [], []))

    def test_one_table_and_many(self):
        cases = [
            (2, [3], [(page, 63 - page, page % 4) for page in range(16)]),
            (2, [3], [(0, 0, 0)]),
            (0, [59], [(255, 63, 3), (240, 0, 1)]),
            (59, [0, 58, 1, 7], [(160, 5, 1), (3, 6, 2), (90, 7, 3), (4, 8, 0), (250, 9, 1)]),
            (30, list(range(16)), [(number * 16 + number, number, number % 4) for number in range(15, -1, -1)]),
            (30, list(range(29, 9, -1)), [(page, page % 64, page % 4) for page in range(0, 240, 4)]),
        ]
        for root, tables, rows in cases:
            with self.subTest(rows=rows):
                self.same(self.lay(root, tables, rows), self.wanted(root, tables, rows))
                self.same(self.lay(root, tuple(tables), tuple(rows)), self.wanted(root, tables, rows))

    def test_tables_beyond_are_not_touched(self):
        words = self.lay(2, [9, 5, 7], [(40, 1, 1), (20, 2, 2)])
        self.same(words[5 * 16 + 8], page_entry(1, 1))
        self.same(words[9 * 16 + 4], page_entry(2, 2))
        self.same(words[7 * 16:8 * 16], [40000 + place for place in range(7 * 16, 8 * 16)])

    def test_a_page_that_lies_on_a_table(self):
        memory = Memory()
        laid(memory, 2, [3], [(0, 3, 3), (1, 2, 1)])
        self.same(mappings(memory, 2), [(0, 3, 3), (1, 2, 1)])
        self.same(translated(memory, 2, 1, "store", True), (49, 0, [32, 48]))

    def test_too_few_tables_change_nothing(self):
        rows = [(0, 1, 1), (16, 2, 1), (255, 3, 1)]
        for many in (0, 1, 2):
            memory = memory_of([(32, [7] * 16)])
            self.refused(FewTables, {}, laid, memory, 2, [3, 4, 5][:many], rows)
            self.assertTrue(memory == memory_of([(32, [7] * 16)]))
        laid(memory, 2, [3, 4, 5], rows)
        self.same(mappings(memory, 2), rows)

    def test_sixty_rows_and_one_more(self):
        rows = [(page, page % 64, 1) for page in range(60)]
        memory = Memory()
        laid(memory, 2, [3, 4, 5, 6], rows)
        self.same(mappings(memory, 2), rows)
        self.refused(InvalidRows, {"value": rows + [(60, 1, 1)]}, laid, memory, 2, [3, 4, 5, 6], rows + [(60, 1, 1)])
        self.same(mappings(memory, 2), rows)

    def test_laid_again(self):
        memory = Memory()
        laid(memory, 2, [3], [(0, 1, 1), (1, 2, 2)])
        laid(memory, 2, [3], [(1, 5, 0)])
        self.same([mappings(memory, 2), memory.word(48)], [[(1, 5, 0)], 0])

    def test_what_is_passed_stays(self):
        tables, rows = [3, 4], [(20, 1, 1), (0, 2, 2)]
        laid(Memory(), 2, tables, rows)
        self.same([tables, rows], [[3, 4], [(20, 1, 1), (0, 2, 2)]])


class Mapped(Case):
    def test_just_the_rows_are_mapped(self):
        dice = random.Random(3)
        for _ in range(25):
            frames = dice.sample(range(60), 17)
            rows = [(page, dice.randrange(64), dice.randrange(4))
                    for page in dice.sample(range(256), dice.randrange(61))]
            numbers = len({row[0] // 16 for row in rows})
            memory = any_memory(dice)
            laid(memory, frames[0], frames[1:], rows)
            self.same(mappings(memory, frames[0]), sorted(rows))
            # Words elsewhere may be written, those in tables that are not used, too.
            tables = {place for frame in frames[:numbers + 1] for place in range(frame * 16, frame * 16 + 16)}
            for place in range(960):
                if place not in tables:
                    memory.put(place, dice.randrange(65536))
            self.same(mappings(memory, frames[0]), sorted(rows))
            for frame in range(64):
                self.same(pages_of(memory, frames[0], frame), sorted(row[0] for row in rows if row[1] == frame))

    def test_against_the_model(self):
        dice = random.Random(4)
        for _ in range(8):
            memory, root = any_memory(dice), dice.randrange(60)
            words = words_of(memory)
            told = [found(words, root, page * 16, "load", False) for page in range(256)]
            rows = []
            for page, (place, _, leans) in enumerate(told):
                if place is not None:
                    _, writable, users, frame = entry_of(words[leans[1]])
                    rows.append((page, frame, users + 2 * writable))
            self.same(mappings(memory, root), rows)
            for place in sorted({place for one in told for place in one[2]})[::5] + [0, 959, 960, 1023]:
                self.same(leaning(memory, root, place),
                          [page for page, one in enumerate(told) if place in one[2]])
            self.assertEqual(words_of(memory), words)

    def test_mapped_without_rights_and_to_devices(self):
        memory = Memory()
        laid(memory, 2, [3], [(0, 63, 0), (1, 60, 2), (2, 0, 0)])
        self.same(mappings(memory, 2), [(0, 63, 0), (1, 60, 2), (2, 0, 0)])

    def test_a_root_beyond_memory_maps_nothing(self):
        memory = memory_with([page_entry(1, 3)] * 960)
        self.same(len(mappings(memory, 59)), 256)
        for root in (60, 63):
            self.same([mappings(memory, root), pages_of(memory, root, 1), leaning(memory, root, 959)], [[], [], []])

    def test_pages_whose_second_entries_let_nothing_by_are_mapped(self):
        memory = memory_of([(32, [page_entry(3, 0)]), (48, [page_entry(9, 0), 32767])])
        self.same([mappings(memory, 2), leaning(memory, 2, 49)], [[(0, 9, 0)], [1]])

    def test_tables_beyond_memory_map_nothing(self):
        memory = memory_of([(32, [page_entry(60, 3), page_entry(63, 3)])])
        self.same([mappings(memory, 2), leaning(memory, 2, 32)], [[], list(range(16))])

    def test_leaning(self):
        memory = Memory()
        laid(memory, 2, [3], [(0, 10, 1)])
        self.same([leaning(memory, 2, 32), leaning(memory, 2, 33), leaning(memory, 2, 47), leaning(memory, 2, 48),
                   leaning(memory, 2, 63), leaning(memory, 2, 31), leaning(memory, 2, 64), leaning(memory, 2, 160),
                   leaning(memory, 2, 960), leaning(memory, 2, 1023)],
                  [list(range(16)), list(range(16, 32)), list(range(240, 256)), [0], [15], [], [], [], [], []])


class ByName(Case):
    def test_arguments_by_name(self):
        memory = Memory()
        laid(memory=memory, root=2, tables=[3], rows=[(0, 10, 1)])
        self.same(
            [page_entry(frame=10, flags=1), entry_parts(word=40970),
             by_entry(word=40970, address=3, way="load", is_user=True),
             translated(memory=memory, root=2, address=3, way="load", is_user=True), straight(address=3, way="load"),
             mappings(memory=memory, root=2), pages_of(memory=memory, root=2, frame=10),
             leaning(memory=memory, root=2, place=48)],
            [40970, (True, 1, 10), (163, 0), (163, 0, [32, 48]), (3, 0, []), [(0, 10, 1)], [0], [0]],
        )


class Refusals(Case):
    def setUp(self):
        self.memory = Memory()
        laid(self.memory, 2, [3], [(0, 10, 1)])
        self.rows = self.memory.rows()

    def tearDown(self):
        self.same(self.memory.rows(), self.rows)

    def test_entries(self):
        self.refused_each(InvalidFrame, "value", NO_FRAMES, lambda value: page_entry(value, 1))
        self.refused_each(InvalidFlags, "value", NO_FLAGS, lambda value: page_entry(10, value))
        self.refused_each(InvalidWord, "value", NO_WORDS, entry_parts)
        self.refused_in_sequence(page_entry, (1, InvalidFrame, 64), (1, InvalidFlags, 4))

    def test_by_entry(self):
        self.refused_each(InvalidWord, "value", NO_WORDS, lambda value: by_entry(value, 0, "load", True))
        self.refused_each(InvalidAddress, "value", NO_ADDRESSES, lambda value: by_entry(0, value, "load", True))
        self.refused_each(InvalidWay, "value", NO_WAYS, lambda value: by_entry(0, 0, value, True))
        self.refused_each(InvalidSide, "value", NO_SIDES, lambda value: by_entry(0, 0, "load", value))
        self.refused_in_sequence(by_entry, (0, InvalidWord, -1), (0, InvalidAddress, 4096), ("load", InvalidWay, "l"),
                                 (True, InvalidSide, 1))

    def test_translated(self):
        memory = self.memory
        for error, wrong, call in (
            (InvalidMemory, NO_OBJECTS + [Memory], lambda value: translated(value, 0, 0, "load", True)),
            (InvalidFrame, NO_FRAMES, lambda value: translated(memory, value, 0, "load", True)),
            (InvalidAddress, NO_ADDRESSES, lambda value: translated(memory, 0, value, "load", True)),
            (InvalidWay, NO_WAYS, lambda value: translated(memory, 0, 0, value, True)),
            (InvalidSide, NO_SIDES, lambda value: translated(memory, 0, 0, "load", value)),
        ):
            self.refused_each(error, "value", wrong, call)
        self.refused_in_sequence(translated, (memory, InvalidMemory, None), (0, InvalidFrame, 64),
                                 (0, InvalidAddress, 4096), ("load", InvalidWay, "l"), (True, InvalidSide, 0))

    def test_straight(self):
        self.refused_each(InvalidAddress, "value", NO_ADDRESSES, lambda value: straight(value, "load"))
        self.refused_each(InvalidWay, "value", NO_WAYS, lambda value: straight(0, value))
        self.refused_in_sequence(straight, (0, InvalidAddress, -1), ("load", InvalidWay, None))

    def test_mappings(self):
        memory = self.memory
        self.refused_each(InvalidMemory, "value", NO_OBJECTS, lambda value: mappings(value, 0))
        self.refused_each(InvalidFrame, "value", NO_FRAMES, lambda value: mappings(memory, value))
        self.refused_each(InvalidMemory, "value", NO_OBJECTS, lambda value: pages_of(value, 0, 0))
        self.refused_each(InvalidFrame, "value", NO_FRAMES, lambda value: pages_of(memory, value, 0))
        self.refused_each(InvalidFrame, "value", NO_FRAMES, lambda value: pages_of(memory, 0, value))
        self.refused_each(InvalidMemory, "value", NO_OBJECTS, lambda value: leaning(value, 0, 0))
        self.refused_each(InvalidFrame, "value", NO_FRAMES, lambda value: leaning(memory, value, 0))
        self.refused_each(InvalidPlace, "value", NO_PLACES, lambda value: leaning(memory, 0, value))
        self.refused_in_sequence(mappings, (memory, InvalidMemory, 0), (0, InvalidFrame, 64))
        self.refused_in_sequence(pages_of, (memory, InvalidMemory, 0), (0, InvalidFrame, 64), (0, InvalidFrame, 65))
        self.refused_in_sequence(leaning, (memory, InvalidMemory, 0), (0, InvalidFrame, 64), (0, InvalidPlace, 1024))

    def test_laid(self):
        memory = self.memory
        self.refused_each(InvalidMemory, "value", NO_OBJECTS, lambda value: laid(value, 2, [3], []))
        self.refused_each(InvalidFrame, "value", NO_MEMORY_FRAMES, lambda value: laid(memory, value, [3], []))
        wrong = NO_LISTS + [[3, one] for one in NO_MEMORY_FRAMES] + [[3, 3], (4, 3, 4), [2], [3, 2], list(range(60))]
        self.refused_each(InvalidTables, "value", wrong, lambda value: laid(memory, 2, value, []))
        wrong = NO_LISTS + [[one] for one in NO_TUPLES + [(), (1,), (1, 2), (1, 2, 3, 0), [1, 2, 3]]]
        wrong += [[(one, 1, 1)] for one in NO_COUNTS + [256, 4096, BIG]]
        wrong += [[(1, one, 1)] for one in NO_FRAMES] + [[(1, 1, one)] for one in NO_FLAGS]
        wrong += [[(1, 1, 1), (1, 1, 1)], ((1, 1, 1), (2, 1, 1), (1, 2, 3)), [(page, 1, 1) for page in range(61)]]
        self.refused_each(InvalidRows, "value", wrong, lambda value: laid(memory, 2, [3], value))
        self.refused_in_sequence(laid, (memory, InvalidMemory, 0), (2, InvalidFrame, 60), ([], InvalidTables, [2, 60]),
                                 ([], InvalidRows, [(0, 0, 4)]))
        self.refused(FewTables, {}, laid, memory, 2, [], [(0, 0, 0)])


if __name__ == "__main__":
    unittest.main()
