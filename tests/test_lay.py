import unittest

from tests.helper import BIG, ONE_BYTE, ask, cut, flip, last, lay, lay_row, read, record, restart, told


def one_parameter(width, period, phase):
    return last(lay(2, 16, 0, (width, period, phase)))


class Ranges(unittest.TestCase):
    def test_it_answers_len_and_seven(self):
        for length in range(1, 17):
            self.assertEqual(last(lay(3, length, 9, ONE_BYTE)), [length + 7])

    def test_slots(self):
        for slots in (2, 3, 15, 16):
            self.assertEqual(last(lay(slots, 1, 0)), [8])
        for slots in (1, 17, 0, -1, -2, BIG, -BIG):
            self.assertEqual(last(lay(slots, 1, 0)), [-1])

    def test_length(self):
        for length in (0, 17, -1, BIG, -BIG):
            self.assertEqual(last(lay(2, length, 0)), [-1])

    def test_first(self):
        for first in (0, 1, 65534, 65535):
            self.assertEqual(last(lay(2, 1, first)), [8])
        for first in (-1, 65536, BIG, -BIG):
            self.assertEqual(last(lay(2, 1, first)), [-1])


class Parameters(unittest.TestCase):
    def test_a_list_that_is_not_threes(self):
        whole = [1, 1, 0] * 12
        for count in range(0, 37):
            self.assertEqual(last(lay_row(2, 2, 0, whole[:count])), [9] if count % 3 == 0 else [-1])

    def test_twelve_and_thirteen(self):
        self.assertEqual(last(lay(2, 2, 0, *[(1, 1, 0)] * 12)), [9])
        self.assertEqual(last(lay(2, 2, 0, *[(1, 1, 0)] * 13)), [-1])
        self.assertEqual(last(lay_row(2, 2, 0, [1] * 40)), [-1])

    def test_width(self):
        for width in (1, 2, 15, 16):
            self.assertEqual(one_parameter(width, 1, 0), [23])
        for width in (0, 17, -1, BIG, -BIG):
            self.assertEqual(one_parameter(width, 1, 0), [-1])

    def test_period(self):
        for period in range(-3, 40):
            expected = [23] if period in (1, 2, 4, 8, 16) else [-1]
            self.assertEqual(one_parameter(1, period, 0), expected)
        self.assertEqual(one_parameter(1, BIG, 0), [-1])
        self.assertEqual(one_parameter(1, -BIG, 0), [-1])

    def test_phase(self):
        for period in (1, 2, 4, 8, 16):
            self.assertEqual(one_parameter(1, period, period - 1), [23])
            self.assertEqual(one_parameter(1, period, 0), [23])
            for phase in (period, -1, BIG, -BIG):
                self.assertEqual(one_parameter(1, period, phase), [-1])

    def test_every_parameter_is_looked_at(self):
        good = [(1, 1, 0)] * 12
        for place in range(12):
            for bad in ((0, 1, 0), (1, 3, 0), (1, 2, 2)):
                mixed = good[:place] + [bad] + good[place + 1:]
                self.assertEqual(last(lay(2, 2, 0, *mixed)), [-1])


class TooWide(unittest.TestCase):
    def test_just_eight_times_len_and_one_more(self):
        for length in range(1, 12):
            full = [ONE_BYTE] * (length - 1) + [(7, 1, 0)]
            self.assertEqual(last(lay(2, length, 0, *full, (1, 1, 0))), [length + 7])
            self.assertEqual(last(lay(2, length, 0, *full, (2, 1, 0))), [-3])

    def test_sixteen_bytes_full(self):
        full = [(12, 1, 0)] * 8 + [(8, 1, 0)] * 4
        self.assertEqual(last(lay(2, 16, 0, *full)), [23])
        self.assertEqual(last(lay(2, 16, 0, *full[:-1], (9, 1, 0))), [-3])

    def test_only_one_frame_other_than_number_0_has_too_many(self):
        for phase in range(16):
            self.assertEqual(last(lay(2, 1, 0, (7, 1, 0), (1, 16, phase))), [8])
            self.assertEqual(last(lay(2, 1, 0, (7, 1, 0), (2, 16, phase))), [-3])

    def test_parameters_that_take_turns_are_not_added_up(self):
        self.assertEqual(last(lay(2, 1, 0, (8, 2, 0), (8, 2, 1))), [8])
        self.assertEqual(last(lay(2, 1, 0, (8, 4, 1), (8, 4, 3), (8, 8, 0), (8, 8, 4), (8, 16, 2))), [8])
        self.assertEqual(last(lay(2, 1, 0, (8, 4, 1), (1, 16, 13))), [-3])
        self.assertEqual(last(lay(2, 1, 0, (8, 8, 5), (1, 2, 1))), [-3])

    def test_frames_that_are_not_reached_count_too(self):
        self.assertEqual(last(lay(2, 1, 65535, (7, 1, 0), (2, 16, 3))), [-3])

    def test_out_of_range_goes_ahead_of_it(self):
        wide = [(16, 1, 0)] * 2
        self.assertEqual(last(lay(2, 1, 0, *wide)), [-3])
        self.assertEqual(last(lay(1, 1, 0, *wide)), [-1])
        self.assertEqual(last(lay(2, 0, 0, *wide)), [-1])
        self.assertEqual(last(lay(2, 1, 65536, *wide)), [-1])
        self.assertEqual(last(lay(2, 1, 0, *wide, (1, 1, 1))), [-1])


class LaidAgain(unittest.TestCase):
    def test_a_refused_lay_changes_nothing(self):
        for refused, answer in ((lay(1, 1, 3), [-1]), (lay(2, 1, 3, (16, 1, 0)), [-3])):
            parts = ask(lay(3, 1, 5, ONE_BYTE), record(9), flip(0, 0, 0), cut(4), refused,
                        read(), flip(0, 0, 0), record(8), restart(), record(7))
            self.assertEqual(parts[4:], [answer, told((5, 0, [9])), [-5], [0, 6], [6], [1, 6]])

    def test_a_second_lay_forgets_frames_and_hurt_and_numbers(self):
        parts = ask(lay(2, 1, 5, ONE_BYTE), record(9), record(8), flip(0, 0, 0), flip(1, 0, 0),
                    lay(2, 1, 3, ONE_BYTE), read(), flip(0, 0, 0), flip(1, 0, 0), restart(), record(7), read())
        self.assertEqual(parts[5:], [[8], [0], [0], [0], [3], [1, 3], told((3, 0, [7]))])

    def test_a_second_lay_forgets_the_same_ring_too(self):
        same = lay(2, 1, 5, ONE_BYTE)
        self.assertEqual(ask(same, record(9), same, read(), restart())[2:], [[8], [0], [5]])

    def test_a_second_lay_forgets_a_cut(self):
        self.assertEqual(ask(lay(2, 1, 5), cut(0), lay(2, 1, 6), record())[2:], [[8], [1, 6]])

    def test_a_second_lay_has_its_own_parameters_and_sizes(self):
        parts = ask(lay(2, 1, 0, ONE_BYTE), lay(4, 3, 0, (4, 1, 0), (16, 2, 1)),
                    record(255), record(15), record(1, 65535), flip(3, 9, 7), flip(4, 0, 0), flip(0, 10, 0), read())
        self.assertEqual(parts[1:], [[10], [-4], [1, 0], [1, 1], [0], [-1], [-1],
                                     told((0, 0, [15]), (1, 0, [1, 65535]))])


if __name__ == "__main__":
    unittest.main()
