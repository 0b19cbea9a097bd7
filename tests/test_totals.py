import unittest

from tests.helper import (
    BIG, ONE_BYTE, ask, cut, dump, flip, hear, last, lay, listen, next_number, read, record, restart, slot, totals)


class Counts(unittest.TestCase):
    def test_zeros_at_first(self):
        self.assertEqual(last(lay(2, 1, 0), totals()), [0, 0, 0, 0])

    def test_recorded_frames_count_beyond_the_slots(self):
        for count in range(1, 9):
            self.assertEqual(last(lay(3, 1, 0), *[record()] * count, totals()), [count, 0, 0, min(count, 3)])

    def test_each_cut_record_counts_as_lost_power(self):
        for k in range(0, 12):
            expected = [2, 0, 0, 2] if k >= 9 else [1, 1, 0, 1]
            self.assertEqual(last(lay(3, 1, 0), record(), cut(k), record(), totals()), expected)

    def test_a_cut_alone_is_no_lost_power(self):
        self.assertEqual(last(lay(2, 1, 0), cut(0), cut(3), totals(), restart(), totals()), [0, 0, 0, 0])

    def test_a_cut_record_spoils_the_slot_it_began_to_write(self):
        start = [lay(2, 1, 0), record(), record()]
        self.assertEqual(last(*start, cut(0), record(), totals()), [2, 1, 0, 2])
        self.assertEqual(last(*start, cut(1), record(), totals()), [2, 1, 0, 1])

    def test_a_frame_recorded_again_counts_again(self):
        parts = ask(lay(2, 1, 0), record(), record(), flip(1, 0, 0), restart(), record(), totals())
        self.assertEqual(parts[-1], [3, 0, 1, 2])

    def test_flips(self):
        parts = ask(lay(2, 1, 0), record(), flip(0, 3, 3), totals(), flip(1, 0, 0), totals(), record(), totals(),
                    flip(1, 0, 0), totals())
        self.assertEqual(parts[3::2], [[1, 0, 1, 0], [1, 0, 2, 0], [2, 0, 2, 1], [2, 0, 3, 0]])

    def test_all_together(self):
        parts = ask(lay(4, 2, 9, ONE_BYTE), *[record(n) for n in range(6)], cut(4), record(1), cut(2), record(1),
                    flip(0, 0, 0), flip(2, 1, 1), totals())
        self.assertEqual(parts[-1], [6, 2, 2, 1])


class Unchanged(unittest.TestCase):
    START = [lay(3, 1, 0, ONE_BYTE), record(1), record(2), cut(3), record(3), flip(1, 3, 0)]
    EXPECTED = [2, 1, 1, 1]

    def test_refusals_change_nothing(self):
        self.assertEqual(last(*self.START, totals()), self.EXPECTED)
        refused = [(lay(1, 1, 0), -1), (lay(2, 1, 0, (9, 1, 0)), -3), (record(), -4), (record(256), -4),
                   (cut(1001), -1), (flip(3, 0, 0), -1), (flip(0, 8, 0), -1), (flip(0, 0, 8), -1), (flip(1, 0, 0), -5),
                   (slot(3), -1), (hear(3, 0, 0), -1), (hear(2, 9, 0), -1), (listen([256]), -1), (listen([BIG]), -1)]
        for call, answer in refused:
            self.assertEqual(ask(*self.START, call, totals())[-2:], [[answer], self.EXPECTED])

    def test_a_record_beyond_the_last_number_changes_nothing(self):
        self.assertEqual(last(lay(2, 1, 65535), record(), record(), cut(0), record(), totals()), [1, 0, 0, 1])

    def test_calls_that_only_ask_change_nothing(self):
        for call in (read(), slot(1), dump(), hear(0, 0, 5), hear(2, 0, 0), listen([192, 193]), next_number(), totals()):
            self.assertEqual(last(*self.START, call, totals()), self.EXPECTED)

    def test_a_restart_forgets_no_count(self):
        self.assertEqual(last(*self.START, restart(), totals()), self.EXPECTED)

    def test_a_second_lay_forgets_them_all(self):
        self.assertEqual(last(*self.START, lay(3, 1, 0, ONE_BYTE), totals()), [0, 0, 0, 0])
        self.assertEqual(last(*self.START, lay(3, 1, 0), record(), totals()), [1, 0, 0, 1])


if __name__ == "__main__":
    unittest.main()
