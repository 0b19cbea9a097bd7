import unittest

from tests.helper import BIG, ONE_BYTE, ask, cut, flip, frame, last, lay, read, record, restart, slot, totals


class Ranges(unittest.TestCase):
    def test_both_ends_and_just_outside(self):
        for slots in (2, 3, 16):
            for number in range(slots):
                self.assertEqual(last(lay(slots, 1, 0), slot(number)), [8] + [0] * 8)
            for number in (-1, slots, slots + 1, BIG, -BIG):
                self.assertEqual(last(lay(slots, 1, 0), slot(number)), [-1])

    def test_as_many_bytes_as_lay_answers(self):
        for length in range(1, 17):
            self.assertEqual(last(lay(2, length, 0), slot(1)), [length + 7] + [0] * (length + 7))


class Bytes(unittest.TestCase):
    def test_a_whole_record(self):
        # 5 in 3 bits, 190 in 8 and 0 in 2: 101 10111110 00, and three zeros behind them.
        layout = lay(2, 2, 301, (3, 1, 0), (8, 1, 0), (2, 1, 0))
        parts = ask(layout, record(5, 190, 0), slot(1), slot(0))
        self.assertEqual(parts[2], [9, 165, 1, 45, 0b10110111, 0b11000000, 1, 165, 1, 45])
        self.assertEqual(parts[3], [9] + [0] * 9)

    def test_the_greatest_bytes(self):
        parts = ask(lay(16, 16, 65535, *[(16, 1, 0)] * 8), record(*[65535] * 8), slot(15))
        self.assertEqual(parts[2], [23, 165] + [255] * 18 + [17, 238, 255, 255])

    def test_each_frame_in_the_slot_of_its_number(self):
        for slots in (2, 3, 5, 16):
            calls = [lay(slots, 1, 250, ONE_BYTE)] + [record(number % 256) for number in range(250, 250 + slots)]
            parts = ask(*calls, *[slot(number) for number in range(slots)])
            expected = [[]] * slots
            for number in range(250, 250 + slots):
                expected[number % slots] = [8, 165] + frame(number, number % 256)
            self.assertEqual(parts[-slots:], expected)

    def test_behind_each_byte_of_a_cut_record(self):
        for k in range(0, 12):
            old, new = frame(5, 17), frame(7, 34)
            start = [lay(2, 1, 5, ONE_BYTE), record(17), record(0)]
            parts = ask(*start, cut(k), record(34), slot(1), slot(0))
            if k == 0:
                expected = [165] + old
            elif k < 9:
                expected = [0] + new[:k - 1] + old[k - 1:]
            else:
                expected = [165] + new
            self.assertEqual(parts[5:], [[8] + expected, [8, 165] + frame(6, 0)])

    def test_behind_each_byte_of_a_cut_record_in_an_empty_slot(self):
        for k in range(0, 25):
            new = frame(258, *[255] * 8, *[0] * 8)
            parts = ask(lay(2, 16, 258, *[(16, 1, 0)] * 4), cut(k), record(*[65535] * 4), slot(0))
            written = new[:max(0, k - 1)]
            self.assertEqual(parts[3], [23, 165 if k > 23 else 0] + written + [0] * (22 - len(written)))

    def test_each_flip_of_a_recorded_slot(self):
        before = [165] + frame(301, 90)
        for byte in range(8):
            for bit in range(8):
                parts = ask(lay(2, 1, 300, ONE_BYTE), record(0), record(90), flip(1, byte, bit), slot(1), slot(0))
                worth = 2 ** bit
                after = list(before)
                after[byte] += -worth if before[byte] // worth % 2 else worth
                self.assertEqual(parts[4:], [[8] + after, [8, 165] + frame(300, 0)])

    def test_a_flip_of_an_empty_slot(self):
        self.assertEqual(last(lay(2, 1, 0), flip(1, 7, 7), slot(1)), [8, 0, 0, 0, 0, 0, 0, 0, 128])

    def test_a_record_goes_over_a_flip_only_as_far_as_it_is_written(self):
        start = [lay(2, 1, 0, ONE_BYTE), flip(0, 7, 3)]
        self.assertEqual(last(*start, cut(7), record(9), slot(0)), [8, 0, 0, 0, 9, 0, 9, 0, 8])
        self.assertEqual(last(*start, cut(8), record(9), slot(0)), [8, 0, 0, 0, 9, 0, 9, 0, 0])
        self.assertEqual(last(*start, cut(0), record(9), slot(0)), [8, 0, 0, 0, 0, 0, 0, 0, 8])

    def test_refusals_and_a_restart_leave_the_bytes(self):
        start = [lay(2, 1, 0, ONE_BYTE), record(7), flip(0, 0, 0)]
        parts = ask(*start, flip(0, 1, 1), flip(0, 8, 0), record(256), record(), cut(-1), lay(1, 1, 0), slot(0),
                    restart(), slot(0))
        self.assertEqual(parts[9], [8, 164] + frame(0, 7))
        self.assertEqual(parts[11], parts[9])

    def test_a_second_lay_empties_them(self):
        self.assertEqual(last(lay(2, 1, 0, ONE_BYTE), record(7), lay(2, 2, 0), slot(0)), [9] + [0] * 9)

    def test_it_changes_nothing(self):
        parts = ask(lay(2, 1, 0, ONE_BYTE), record(7), cut(3), slot(0), slot(1), slot(2), record(8), read(), totals())
        self.assertEqual(parts[6:], [[0, 1], [1, 0, 0, 1, 7], [1, 1, 0, 1]])


if __name__ == "__main__":
    unittest.main()
