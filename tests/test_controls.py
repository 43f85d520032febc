"""Controls, traps and returns [41], [42]."""

import random
import unittest

from kit import BIG, EDGES, NO_ADDRESSES, NO_CONTROLS, NO_COUNTS, Case
from orderlycore.controls import (entry_address, fresh_controls, home_address, is_on, is_paged, is_supervisor,
                                  line_mask, returned, root_frame, trapped)
from orderlycore.errors import InvalidAddress, InvalidCause, InvalidControls

ASKED = (is_supervisor, is_on, is_paged, entry_address, home_address, root_frame, line_mask, returned)


def with_status(status):
    return [status, 11, 12, 13, 14, 15, 16, 17]


class Examples(Case):
    def test_trapped_and_returned(self):
        told = trapped([2, 0, 0, 0, 4200, 0, 0, 7], 8, 21, 0)
        self.same(
            [fresh_controls(), told, returned(told), entry_address(told), home_address(told), is_on(told),
             is_on(returned(told))],
            [[1, 0, 0, 0, 0, 0, 0, 0], [9, 8, 21, 0, 4200, 0, 0, 7], [10, 8, 21, 0, 4200, 0, 0, 7], 104, 21, False,
             True],
        )


class Asked(Case):
    def test_bits_of_the_status(self):
        for status in list(range(64)) + EDGES + [65520, 65534, 65519]:
            controls = with_status(status)
            self.same([is_supervisor(controls), is_on(controls), is_paged(controls)],
                      [status % 2 == 1, status // 2 % 2 == 1, status // 16 % 2 == 1])

    def test_home_entry_root_and_mask_beyond_their_bits(self):
        for word in EDGES + [15, 16, 63, 64, 65, 4095, 4096, 4097, 61440]:
            self.same(home_address([0, 0, word, 0, 0, 0, 0, 0]), word % 4096)
            self.same(entry_address([0, 0, 0, 0, word, 0, 0, 0]), word % 4096)
            self.same(root_frame([0, 0, 0, 0, 0, word, 0, 0]), word % 64)
            self.same(line_mask([0, 0, 0, 0, 0, 0, word, 0]), word % 16)

    def test_each_asks_its_own_control_alone(self):
        full = [65535] * 8
        for at, asked in ((0, is_supervisor), (0, is_on), (0, is_paged), (2, home_address), (4, entry_address),
                          (5, root_frame), (6, line_mask)):
            lone = [0] * 8
            lone[at] = 65535
            self.same(asked(lone), asked(full))
            rest = [65535] * 8
            rest[at] = 0
            self.same(asked(rest), asked([0] * 8))

    def test_tuples_and_names(self):
        controls = (19, 8, 4097, 0, 4098, 65, 17, 0)
        self.same([one(controls=controls) for one in ASKED],
                  [True, True, True, 2, 1, 1, 1, [16, 8, 4097, 0, 4098, 65, 17, 0]])

    def test_fresh_ones_are_new(self):
        fresh_controls()[0] = 9
        self.same(fresh_controls(), [1, 0, 0, 0, 0, 0, 0, 0])


class Traps(Case):
    def test_all_low_bits(self):
        for status in range(64):
            told = trapped(with_status(status), 4, 5, 6)
            side = status % 4
            self.same(told, [status // 16 * 16 + side * 4 + 1, 4, 5, 6, 14, 15, 16, 17])
            self.same([is_supervisor(told), is_on(told), is_paged(told)], [True, False, status // 16 % 2 == 1])

    def test_bits_that_mean_nothing_stay(self):
        self.same(trapped(with_status(65535), 1, 0, 0)[0], 65535 - 2)
        self.same(trapped(with_status(65504), 1, 0, 0)[0], 65504 + 1)
        self.same(trapped(with_status(65516), 1, 0, 0)[0], 65504 + 1)
        self.same(returned(with_status(65535)), with_status(65535))
        self.same(returned(with_status(65523))[0], 65520)

    def test_causes_homes_and_bads(self):
        for cause in range(1, 32):
            self.same(trapped([0] * 8, cause, 4095, 0), [1, cause, 4095, 0, 0, 0, 0, 0])
            self.same(trapped([65535] * 8, cause, 0, 4095)[1:], [cause, 0, 4095, 65535, 65535, 65535, 65535])

    def test_back_from_a_trap_all_is_as_it_was(self):
        for status in range(0, 65536, 3):
            controls = with_status(status)
            back = returned(trapped(controls, 8, 21, 22))
            self.same(back[0] % 4, status % 4)
            self.same(back[0] // 4 % 4, status % 4)
            self.same(back[0] // 16, status // 16)
            self.same(back[1:], [8, 21, 22, 14, 15, 16, 17])

    def test_a_trap_in_a_handler_forgets_the_elder_one(self):
        first = trapped([2, 0, 0, 0, 0, 0, 0, 0], 8, 21, 0)
        second = trapped(first, 3, 40, 0)
        self.same([first[0], second[0], returned(second)[0], returned(returned(second))[0]], [9, 5, 5, 5])

    def test_returns(self):
        for status in range(64):
            told = returned(with_status(status))
            self.same(told, with_status(status // 4 * 4 + status // 4 % 4))

    def test_random_ones(self):
        dice = random.Random(5)
        for _ in range(500):
            controls = [dice.randrange(65536) for _ in range(8)]
            kept = list(controls)
            cause, home, bad = dice.randrange(1, 32), dice.randrange(4096), dice.randrange(4096)
            status = f"{controls[0]:016b}"
            self.same(trapped(controls, cause, home, bad),
                      [int(status[:12] + status[14:] + "01", 2), cause, home, bad] + controls[4:])
            self.same(returned(tuple(controls)), [int(status[:14] + status[12:14], 2)] + controls[1:])
            self.same(controls, kept)

    def test_arguments_by_name(self):
        self.same(trapped(controls=[3] * 8, cause=16, home=1, bad=2), [13, 16, 1, 2, 3, 3, 3, 3])


class Refusals(Case):
    def test_controls(self):
        for asked in ASKED + (lambda value: trapped(value, 1, 0, 0),):
            self.refused_each(InvalidControls, "value", NO_CONTROLS, asked)

    def test_traps(self):
        controls = [1] * 8
        wrong = NO_COUNTS + [0, 32, 33, 65535, BIG]
        self.refused_each(InvalidCause, "value", wrong, lambda value: trapped(controls, value, 0, 0))
        self.refused_each(InvalidAddress, "value", NO_ADDRESSES, lambda value: trapped(controls, 1, value, 0))
        self.refused_each(InvalidAddress, "value", NO_ADDRESSES, lambda value: trapped(controls, 1, 0, value))
        self.refused_in_sequence(trapped, (controls, InvalidControls, [0]), (1, InvalidCause, 0),
                                 (0, InvalidAddress, 4096), (0, InvalidAddress, -1))
        self.same(controls, [1] * 8)


if __name__ == "__main__":
    unittest.main()
