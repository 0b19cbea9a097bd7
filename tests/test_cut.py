import unittest

from tests.helper import BIG, ONE_BYTE, ask, cut, flip, last, lay, lay_row, read, record, restart, told


class Ranges(unittest.TestCase):
    def test_both_ends_and_just_outside(self):
        for k in (0, 1, 500, 999, 1000):
            self.assertEqual(last(lay(2, 1, 0), cut(k)), [0])
        for k in (-1, 1001, BIG, -BIG):
            self.assertEqual(last(lay(2, 1, 0), cut(k)), [-1])


class LostPower(unittest.TestCase):
    def test_each_place_in_an_empty_slot(self):
        for length in (1, 2, 7, 16):
            for k in list(range(length + 12)) + [999, 1000]:
                whole = k >= length + 8
                parts = ask(lay(3, length, 7, ONE_BYTE), cut(k), record(77), read(), restart())
                self.assertEqual(parts[2:], [[1, 7], told((7, 0, [77])), [8]] if whole else [[0, 7], [0], [7]])

    def test_each_place_over_an_older_frame(self):
        for k in range(0, 14):
            parts = ask(lay(2, 2, 4, ONE_BYTE), record(1), record(2), cut(k), record(3), read(), record(9), read())
            if k == 0:
                expected = [[0, 6], told((4, 0, [1]), (5, 0, [2]))]
            elif k < 10:
                expected = [[0, 6], told((5, 0, [2]))]
            else:
                expected = [[1, 6], told((5, 0, [2]), (6, 0, [3]))]
            self.assertEqual(parts[4:6], expected)
            if k < 10:
                self.assertEqual(parts[6:], [[1, 6], told((5, 0, [2]), (6, 0, [9]))])
            else:
                self.assertEqual(parts[6:], [[1, 7], told((6, 0, [3]), (7, 0, [9]))])

    def test_an_older_frame_of_the_same_values_is_not_mistaken_for_the_new_one(self):
        for k in range(1, 9):
            self.assertEqual(last(lay(2, 1, 0), record(), record(), cut(k), record(), read()), told((1, 0, [])))

    def test_the_next_number_with_no_good_slot_is_that_told_by_lay(self):
        parts = ask(lay(2, 1, 9, ONE_BYTE), record(1), record(2), flip(0, 1, 0), flip(1, 1, 0),
                    cut(3), record(3), record(4), read())
        self.assertEqual(parts[6:], [[0, 11], [1, 9], told((9, 0, [4]))])

    def test_the_next_number_is_behind_the_greatest_good_one(self):
        parts = ask(lay(4, 1, 9, ONE_BYTE), record(1), record(2), record(3), flip(11 % 4, 1, 0),
                    cut(3), record(4), record(5), read())
        self.assertEqual(parts[6:], [[0, 12], [1, 11], told((9, 0, [1]), (10, 0, [2]), (11, 0, [5]))])

    def test_the_slot_written_over_counts_only_if_no_byte_was_written(self):
        # The newest frame is spoilt, so the slot of the number behind it holds the greatest good one.
        start = [lay(2, 1, 0, ONE_BYTE), record(1), record(2), flip(1, 2, 0)]
        self.assertEqual(ask(*start, cut(0), record(3), record(4))[5:], [[0, 2], [1, 1]])
        self.assertEqual(ask(*start, cut(1), record(3), record(4))[5:], [[0, 2], [1, 0]])

    def test_parameters_are_those_of_the_number_that_was_found(self):
        parts = ask(lay(2, 1, 2, (4, 2, 0), (6, 2, 1)), cut(2), record(15), record(63), record(15), record(63))
        self.assertEqual(parts[2:], [[0, 2], [-4], [1, 2], [1, 3]])

    def test_the_longest_frame(self):
        widths = [12, 1, 0] * 8 + [8, 1, 0] * 4
        for k in range(0, 26):
            parts = ask(lay_row(2, 16, 3, widths), cut(k), record(*[200] * 12))
            self.assertEqual(parts[2], [1 if k >= 24 else 0, 3])


class UsedUp(unittest.TestCase):
    def test_a_record_that_loses_power_uses_it_up(self):
        self.assertEqual(ask(lay(2, 1, 0), cut(5), record(), record(), record())[2:], [[0, 0], [1, 0], [1, 1]])

    def test_a_record_that_loses_none_uses_it_up(self):
        self.assertEqual(ask(lay(2, 1, 0), cut(9), record(), record(), record())[2:], [[1, 0], [1, 1], [1, 2]])
        self.assertEqual(ask(lay(2, 1, 0), cut(12), record(), record(), record())[2:], [[1, 0], [1, 1], [1, 2]])

    def test_a_record_that_writes_nothing_uses_it_up(self):
        self.assertEqual(ask(lay(2, 1, 0), cut(0), record(), record())[2:], [[0, 0], [1, 0]])

    def test_a_refused_record_does_not(self):
        wrong = [record(256), record(), record(-1)]
        self.assertEqual(ask(lay(2, 1, 0, ONE_BYTE), cut(5), *wrong, record(1), record(1))[2:],
                         [[-4], [-4], [-4], [0, 0], [1, 0]])
        self.assertEqual(ask(lay(2, 1, 65535, ONE_BYTE), record(1), cut(5), record(1), flip(1, 0, 0),
                             record(1), lay(2, 1, 65536), record(1))[3:],
                         [[-6], [0], [-6], [-1], [-6]])

    def test_flip_and_read_do_not(self):
        self.assertEqual(ask(lay(2, 1, 0), cut(5), read(), flip(0, 0, 0), flip(0, 0, 0), record(), record())[5:],
                         [[0, 0], [1, 0]])

    def test_a_later_cut_stands_in_place_of_an_earlier_one(self):
        self.assertEqual(ask(lay(2, 1, 0), cut(2), cut(9), record(), record())[3:], [[1, 0], [1, 1]])
        self.assertEqual(ask(lay(2, 1, 0), cut(9), cut(2), record(), record())[3:], [[0, 0], [1, 0]])
        self.assertEqual(ask(lay(2, 1, 0), cut(0), cut(8), flip(0, 0, 0), record(), flip(0, 0, 0))[4:], [[0, 0], [0]])

    def test_a_refused_cut_leaves_the_earlier_one(self):
        for wrong in (-1, 1001):
            self.assertEqual(ask(lay(2, 1, 0), cut(2), cut(wrong), record(), record())[2:], [[-1], [0, 0], [1, 0]])


if __name__ == "__main__":
    unittest.main()
