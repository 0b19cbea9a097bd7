import unittest

from tests.helper import ONE_BYTE, ask, cut, dump, flip, frame, last, lay, listen, read, record, sent, told, totals


def counted(some):
    return [len(some)] + some


class Nothing(unittest.TestCase):
    def test_no_slot_is_good(self):
        self.assertEqual(last(lay(2, 1, 0), dump()), [0])
        self.assertEqual(last(lay(2, 1, 0), cut(8), record(), dump()), [0])
        self.assertEqual(last(lay(2, 1, 0), record(), flip(0, 0, 0), dump()), [0])
        self.assertEqual(last(lay(2, 1, 0), record(), lay(2, 1, 0), dump()), [0])


class Frames(unittest.TestCase):
    def test_one(self):
        self.assertEqual(last(lay(2, 1, 7, ONE_BYTE), record(200), dump()),
                         [9, 192, 0, 7, 200, 0, 207, 0, 7, 193])

    def test_no_values(self):
        self.assertEqual(last(lay(2, 2, 0), record(), dump()), [10, 192, 0, 0, 0, 0, 0, 0, 0, 0, 193])

    def test_several_by_rising_numbers_round_the_ring(self):
        calls = [lay(4, 1, 253, ONE_BYTE)] + [record(n) for n in range(7)]
        frames = [frame(253 + n, n) for n in range(3, 7)]
        self.assertEqual(last(*calls, dump()), counted(sent(*frames)))

    def test_spoilt_and_cut_ones_are_not_sent(self):
        calls = [lay(4, 1, 0, ONE_BYTE)] + [record(n) for n in range(5)]
        parts = ask(*calls, flip(3, 4, 4), dump(), cut(3), record(9), dump())
        self.assertEqual(parts[7], counted(sent(frame(1, 1), frame(2, 2), frame(4, 4))))
        self.assertEqual(parts[10], counted(sent(frame(2, 2), frame(4, 4))))

    def test_sixteen_of_the_longest(self):
        layout = lay(16, 16, 0xC0C0, *[(16, 1, 0)] * 8)
        values = [0xC0C1, 0xC2C0] * 4
        frames = [frame(0xC0C0 + n, *[0xC0, 0xC1, 0xC2, 0xC0] * 4) for n in range(16)]
        parts = ask(layout, *[record(*values)] * 16, dump(), read())
        self.assertEqual(parts[17], counted(sent(*frames)))
        self.assertEqual(parts[18], last(layout, listen(parts[17][1:])))


class Escaped(unittest.TestCase):
    def test_192_193_and_194_are_sent_as_two(self):
        layout = lay(2, 5, 0, *[ONE_BYTE] * 5)
        self.assertEqual(last(layout, record(191, 192, 193, 194, 195), dump()),
                         [16, 192, 0, 0, 191, 194, 0, 194, 1, 194, 2, 195, 3, 197, 0, 0, 193])

    def test_each_value(self):
        for value in range(256):
            expected = counted(sent(frame(0, value)))
            self.assertEqual(expected[0], 11 if 192 <= value <= 194 else 9)
            self.assertEqual(last(lay(2, 1, 0, ONE_BYTE), record(value), dump()), expected)

    def test_in_the_number_at_both_ends(self):
        self.assertEqual(last(lay(2, 1, 0xC0C1, ONE_BYTE), record(0), dump()),
                         [13, 192, 194, 0, 194, 1, 0, 1, 129, 194, 0, 194, 1, 193])
        self.assertEqual(last(lay(2, 1, 194), record(), dump()),
                         [12, 192, 0, 194, 2, 0, 0, 194, 2, 0, 194, 2, 193])

    def test_in_the_sum(self):
        self.assertEqual(last(lay(2, 1, 1, ONE_BYTE), record(191), dump()),
                         [10, 192, 0, 1, 191, 0, 194, 0, 0, 1, 193])


class Unchanged(unittest.TestCase):
    def test_it_changes_nothing(self):
        parts = ask(lay(2, 1, 0, ONE_BYTE), record(1), flip(1, 3, 0), cut(4), dump(), dump(), record(2), read(),
                    flip(1, 0, 0), totals())
        self.assertEqual(parts[4:], [counted(sent(frame(0, 1)))] * 2 + [[0, 1], told((0, 0, [1])), [0], [1, 1, 2, 1]])


if __name__ == "__main__":
    unittest.main()
