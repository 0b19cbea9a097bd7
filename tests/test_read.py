import unittest

from tests.helper import ONE_BYTE, ask, cut, flip, last, lay, read, record, restart, told


class Read(unittest.TestCase):
    def test_no_frame(self):
        self.assertEqual(last(lay(2, 1, 0), read()), [0])
        self.assertEqual(last(lay(2, 1, 0), cut(3), record(), read()), [0])

    def test_one(self):
        self.assertEqual(last(lay(2, 1, 9, ONE_BYTE), record(33), read()), [1, 9, 0, 1, 33])

    def test_the_first_one_told_misses_none_whatever_its_number(self):
        self.assertEqual(last(lay(2, 1, 65535), record(), read()), [1, 65535, 0, 0])
        self.assertEqual(last(lay(2, 1, 0), *[record()] * 9, flip(7 % 2, 0, 0), read()), [1, 8, 0, 0])

    def test_rising_numbers_round_the_ring(self):
        self.assertEqual(last(lay(4, 1, 0, ONE_BYTE), *[record(n * 10) for n in range(7)], read()),
                         [4, 3, 0, 1, 30, 4, 0, 1, 40, 5, 0, 1, 50, 6, 0, 1, 60])

    def test_rising_numbers_over_a_whole_byte(self):
        self.assertEqual(last(lay(3, 1, 254), record(), record(), record(), read()),
                         told((254, 0, []), (255, 0, []), (256, 0, [])))

    def test_missing_numbers_are_counted(self):
        start = [lay(8, 1, 0, ONE_BYTE)] + [record(n) for n in range(8)]
        spoil = [flip(slot, 3, 0) for slot in (0, 2, 4, 5, 6)]
        self.assertEqual(last(*start, *spoil, read()), told((1, 0, [1]), (3, 1, [3]), (7, 3, [7])))

    def test_missing_numbers_are_counted_where_the_newest_went_over_the_oldest(self):
        start = [lay(3, 1, 0, ONE_BYTE)] + [record(n) for n in range(5)]
        self.assertEqual(last(*start, flip(3 % 3, 1, 0), read()), told((2, 0, [2]), (4, 1, [4])))

    def test_as_many_missing_as_the_ring_allows(self):
        calls = [lay(16, 1, 100)] + [record()] * 16 + [flip(n % 16, 0, 0) for n in range(101, 115)]
        self.assertEqual(last(*calls, read()), told((100, 0, []), (115, 14, [])))

    def test_frames_with_no_values_among_others(self):
        self.assertEqual(last(lay(4, 1, 0, (8, 2, 1)), record(), record(7), record(), record(8), read()),
                         [4, 0, 0, 0, 1, 0, 1, 7, 2, 0, 0, 3, 0, 1, 8])

    def test_a_spoilt_slot_is_not_told_and_comes_back_when_recorded_again(self):
        parts = ask(lay(2, 1, 0, ONE_BYTE), record(1), record(2), flip(1, 3, 0), read(), restart(), record(5), read())
        self.assertEqual(parts[4:], [told((0, 0, [1])), [1], [1, 1], told((0, 0, [1]), (1, 0, [5]))])

    def test_reading_changes_nothing(self):
        parts = ask(lay(2, 1, 0, ONE_BYTE), record(1), flip(1, 3, 0), cut(4), read(), read(), record(2), flip(1, 0, 0))
        self.assertEqual(parts[4:], [told((0, 0, [1])), told((0, 0, [1])), [0, 1], [0]])


if __name__ == "__main__":
    unittest.main()
