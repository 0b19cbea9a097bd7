import unittest

from tests.helper import BIG, ONE_BYTE, ask, cut, last, lay, read, record, restart, told


class Values(unittest.TestCase):
    def test_several_parameters_are_read_as_they_were_recorded(self):
        widths = [(3, 1, 0), (16, 1, 0), (1, 1, 0), (7, 1, 0), (13, 1, 0)]
        for values in ([5, 40000, 1, 99, 8000], [0] * 5, [7, 65535, 1, 127, 8191], [1, 1, 0, 1, 1]):
            self.assertEqual(ask(lay(2, 5, 4, *widths), record(*values), read())[1:],
                             [[1, 4], told((4, 0, values))])

    def test_each_bit_of_each_width(self):
        for width in range(1, 17):
            layout = lay(2, 3, 0, (3, 1, 0), (width, 1, 0), (2, 1, 0))
            for bit in range(width):
                values = [5, 1 << bit, 2]
                self.assertEqual(last(layout, record(*values), read()), told((0, 0, values)))

    def test_a_full_frame_of_sixteen_bytes(self):
        layout = lay(2, 16, 0, *[(12, 1, 0)] * 8, *[(8, 1, 0)] * 4)
        values = [4095, 0, 1, 2048, 1000, 4094, 7, 3333, 255, 0, 128, 1]
        self.assertEqual(last(layout, record(*values), read()), told((0, 0, values)))

    def test_frames_with_none(self):
        self.assertEqual(ask(lay(2, 1, 8), record(), record(0), record(), read())[1:],
                         [[1, 8], [-4], [1, 9], told((8, 0, []), (9, 0, []))])

    def test_periods_and_phases_take_turns(self):
        parameters = [(8, 4, 2), (4, 1, 0), (5, 2, 1), (6, 8, 7), (3, 16, 0)]
        calls = [lay(16, 3, 13, *parameters)]
        frames = []
        for number in range(13, 29):
            values = [(number * 7 + at) % (1 << width) for at, (width, period, phase) in enumerate(parameters)
                      if number % period == phase]
            calls.append(record(*values))
            frames.append((number, 0, values))
        parts = ask(*calls, read())
        self.assertEqual(parts[1:-1], [[1, number] for number in range(13, 29)])
        self.assertEqual(parts[-1], told(*frames))
        self.assertEqual([len(values) for number, missing, values in frames],
                         [2, 2, 3, 2, 2, 2, 2, 1, 2, 2, 3, 1, 2, 2, 2, 1])

    def test_values_keep_the_order_in_which_parameters_were_told(self):
        layout = lay(2, 2, 1, (2, 2, 1), (8, 2, 0), (4, 1, 0))
        self.assertEqual(ask(layout, record(3, 15), record(255, 9), read())[1:],
                         [[1, 1], [1, 2], told((1, 0, [3, 15]), (2, 0, [255, 9]))])
        self.assertEqual(last(layout, record(15, 3)), [-4])

    def test_both_ends_and_just_outside(self):
        for width in range(1, 17):
            layout = lay(2, 2, 0, (width, 1, 0))
            top = (1 << width) - 1
            self.assertEqual(ask(layout, record(0), record(top), read())[1:],
                             [[1, 0], [1, 1], told((0, 0, [0]), (1, 0, [top]))])
            for wrong in (-1, top + 1, BIG, -BIG):
                self.assertEqual(ask(layout, record(wrong), read(), restart())[1:], [[-4], [0], [0]])

    def test_each_value_is_looked_at(self):
        layout = lay(2, 3, 0, *[ONE_BYTE] * 3)
        for values in ((256, 0, 0), (0, 256, 0), (0, 0, 256), (-1, 0, 0), (0, -1, 0), (0, 0, -1)):
            self.assertEqual(last(layout, record(*values)), [-4])

    def test_too_many_and_too_few(self):
        layout = lay(2, 3, 0, *[ONE_BYTE] * 3)
        for count in range(0, 21):
            self.assertEqual(last(layout, record(*[1] * count)), [1, 0] if count == 3 else [-4])

    def test_the_count_asked_is_that_of_the_next_frame(self):
        layout = lay(2, 2, 0, (8, 2, 0), (8, 4, 2))
        self.assertEqual(ask(layout, record(1, 2), record(1), record(1), record(), record(1), record(1, 2))[1:],
                         [[-4], [1, 0], [-4], [1, 1], [-4], [1, 2]])

    def test_a_refused_record_changes_nothing(self):
        start = [lay(2, 1, 0, ONE_BYTE), record(1), record(2)]
        self.assertEqual(ask(*start, record(256), record(), read(), record(3))[3:],
                         [[-4], [-4], told((0, 0, [1]), (1, 0, [2])), [1, 2]])


class LastNumber(unittest.TestCase):
    def test_65535_is_recorded_and_then_no_more(self):
        records = [record(1), record(2), record(3)]
        self.assertEqual(ask(lay(2, 1, 65534, ONE_BYTE), *records, read(), restart(), record(4))[1:],
                         [[1, 65534], [1, 65535], [-6], told((65534, 0, [1]), (65535, 0, [2])), [65536], [-6]])

    def test_it_is_looked_at_ahead_of_wrong_values(self):
        start = [lay(2, 1, 65535, ONE_BYTE), record(1)]
        for values in ((256,), (-1,), (), (1, 2), (BIG,) * 20):
            self.assertEqual(last(*start, record(*values)), [-6])

    def test_power_lost_at_65535_lets_it_be_recorded_again(self):
        self.assertEqual(ask(lay(2, 1, 65535, ONE_BYTE), cut(8), record(1), record(2), record(3))[2:],
                         [[0, 65535], [1, 65535], [-6]])


class RoundTheRing(unittest.TestCase):
    def test_newer_frames_go_over_older_ones(self):
        for slots in range(2, 17):
            for first in (0, 1, slots - 1, slots, 255, 256, 1000, 65535 - 3 * slots):
                values = [(first + step * 5) % 256 for step in range(3 * slots)]
                calls = [lay(slots, 1, first, ONE_BYTE)]
                expected = []
                for step, value in enumerate(values):
                    calls += [record(value), read()]
                    oldest = max(0, step + 1 - slots)
                    expected += [[1, first + step],
                                 told(*[(first + at, 0, [values[at]]) for at in range(oldest, step + 1)])]
                self.assertEqual(ask(*calls)[1:], expected)

    def test_the_slot_is_the_number_mod_the_slots(self):
        for slots in (2, 3, 5, 16):
            for number in (0, 1, 7, 16, 258, 4095, 65535):
                for slot in range(slots):
                    spoilt = last(lay(slots, 1, number, ONE_BYTE), record(1), [3, slot, 0, 0], read())
                    self.assertEqual(spoilt == [0], slot == number % slots)


if __name__ == "__main__":
    unittest.main()
