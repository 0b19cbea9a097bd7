import unittest

from tests.helper import BIG, ONE_BYTE, ask, cut, flip, last, lay, read, record, restart, told


class Ranges(unittest.TestCase):
    def test_slot(self):
        for slots in (2, 3, 16):
            for slot in range(slots):
                self.assertEqual(last(lay(slots, 1, 0), flip(slot, 0, 0)), [0])
            for slot in (-1, slots, BIG, -BIG):
                self.assertEqual(last(lay(slots, 1, 0), flip(slot, 0, 0)), [-1])

    def test_byte(self):
        for length in (1, 2, 16):
            for byte in range(length + 7):
                self.assertEqual(last(lay(2, length, 0), flip(0, byte, 0)), [0])
            for byte in (-1, length + 7, BIG, -BIG):
                self.assertEqual(last(lay(2, length, 0), flip(0, byte, 0)), [-1])

    def test_bit(self):
        for bit in range(8):
            self.assertEqual(last(lay(2, 1, 0), flip(0, 0, bit)), [0])
        for bit in (-1, 8, BIG, -BIG):
            self.assertEqual(last(lay(2, 1, 0), flip(0, 0, bit)), [-1])

    def test_out_of_range_goes_ahead_of_hurt(self):
        for wrong in (flip(-1, 0, 0), flip(0, 8, 0), flip(0, 0, 8)):
            self.assertEqual(ask(lay(2, 1, 0), flip(0, 0, 0), flip(1, 0, 0), wrong)[3], [-1])

    def test_a_refused_flip_hurts_nothing(self):
        calls = [lay(2, 1, 0, ONE_BYTE), record(1), record(2)]
        wrong = [flip(-1, 0, 0), flip(2, 0, 0), flip(0, -1, 0), flip(1, 8, 0), flip(0, 0, -1), flip(1, 0, 8)]
        parts = ask(*calls, *wrong, read(), flip(0, 0, 0), flip(1, 0, 0))
        self.assertEqual(parts[3:], [[-1]] * 6 + [told((0, 0, [1]), (1, 0, [2])), [0], [0]])


class Spoilt(unittest.TestCase):
    def test_any_bit_of_a_good_slot_spoils_it_and_no_other(self):
        for length in (1, 3):
            for byte in range(length + 7):
                for bit in range(8):
                    parts = ask(lay(2, length, 300, ONE_BYTE), record(90), record(91), flip(1, byte, bit), read())
                    self.assertEqual(parts[3:], [[0], told((300, 0, [90]))])

    def test_the_zeros_behind_the_values_count_too(self):
        for byte in (3, 4, 5):
            self.assertEqual(last(lay(2, 3, 0), record(), flip(0, byte, 7), read()), [0])

    def test_a_slot_that_was_not_written(self):
        for byte in range(8):
            for bit in range(8):
                parts = ask(lay(2, 1, 0, ONE_BYTE), flip(0, byte, bit), read(), restart(), flip(0, byte, bit),
                            record(4), read())
                self.assertEqual(parts[1:], [[0], [0], [0], [-5], [1, 0], told((0, 0, [4]))])

    def test_a_slot_in_which_power_was_lost(self):
        for k in range(1, 9):
            for byte in range(8):
                for bit in range(8):
                    parts = ask(lay(2, 1, 165, ONE_BYTE), cut(k), record(165), flip(1, byte, bit), read(), restart())
                    self.assertEqual(parts[3:], [[0], [0], [165]])


class Hurt(unittest.TestCase):
    def test_a_hurt_slot_is_refused_for_any_bit(self):
        start = [lay(2, 1, 0, ONE_BYTE), record(1), flip(0, 3, 2)]
        for byte in range(8):
            for bit in range(8):
                self.assertEqual(ask(*start, flip(0, byte, bit), read(), flip(1, byte, bit))[3:], [[-5], [0], [0]])

    def test_it_stays_hurt_through_other_calls(self):
        parts = ask(lay(2, 1, 0), flip(1, 0, 0), read(), cut(3), restart(), record(), record(5), flip(1, 0, 0))
        self.assertEqual(parts[-1], [-5])

    def test_a_record_into_it_heals_it(self):
        parts = ask(lay(2, 1, 0, ONE_BYTE), flip(0, 4, 4), record(1), read(), flip(0, 4, 4), flip(0, 4, 4), read())
        self.assertEqual(parts[1:], [[0], [1, 0], told((0, 0, [1])), [0], [-5], [0]])

    def test_a_record_into_another_does_not(self):
        self.assertEqual(ask(lay(2, 1, 0), flip(1, 0, 0), record(), flip(1, 0, 0), record(), flip(1, 0, 0))[3:],
                         [[-5], [1, 1], [0]])

    def test_a_record_that_wrote_some_byte_heals_it(self):
        for k in range(1, 12):
            parts = ask(lay(2, 1, 0), flip(0, 0, 0), cut(k), record(), flip(0, 0, 0), flip(0, 0, 0))
            self.assertEqual(parts[4:], [[0], [-5]])

    def test_a_record_that_wrote_none_leaves_it_hurt(self):
        self.assertEqual(ask(lay(2, 1, 0), flip(0, 0, 0), cut(0), record(), flip(0, 0, 0), record(), flip(0, 0, 0))[3:],
                         [[0, 0], [-5], [1, 0], [0]])

    def test_a_refused_record_leaves_it_hurt(self):
        self.assertEqual(ask(lay(2, 1, 0), flip(0, 0, 0), record(1), flip(0, 0, 0))[2:], [[-4], [-5]])


if __name__ == "__main__":
    unittest.main()
