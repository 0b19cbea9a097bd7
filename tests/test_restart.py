import unittest

from tests.helper import ONE_BYTE, ask, cut, flip, last, lay, read, record, restart, told


class Found(unittest.TestCase):
    def test_with_no_good_slot(self):
        for first in (0, 1, 77, 65535):
            self.assertEqual(last(lay(2, 1, first), restart()), [first])

    def test_with_some(self):
        for count in range(1, 9):
            records = [record(5)] * count
            self.assertEqual(ask(lay(3, 1, 40, ONE_BYTE), *records, restart(), record(6))[-2:],
                             [[40 + count], [1, 40 + count]])

    def test_with_the_newest_one_spoilt(self):
        parts = ask(lay(3, 1, 0, ONE_BYTE), *[record(n) for n in range(5)], flip(4 % 3, 2, 5), restart(),
                    read(), record(9), read())
        self.assertEqual(parts[7:], [[4], told((2, 0, [2]), (3, 0, [3])), [1, 4],
                                     told((2, 0, [2]), (3, 0, [3]), (4, 0, [9]))])

    def test_with_an_older_one_spoilt(self):
        parts = ask(lay(3, 1, 0, ONE_BYTE), *[record(n) for n in range(5)], flip(3 % 3, 2, 5), restart())
        self.assertEqual(parts[-1], [5])

    def test_with_all_spoilt_it_is_the_number_told_by_lay(self):
        parts = ask(lay(2, 1, 50), *[record()] * 5, flip(0, 0, 0), flip(1, 0, 0), restart(), record())
        self.assertEqual(parts[-2:], [[50], [1, 50]])

    def test_behind_the_last_number(self):
        parts = ask(lay(2, 1, 65534), record(), record(), restart(), flip(1, 0, 0), record(), restart(), record())
        self.assertEqual(parts[3:], [[65536], [0], [-6], [65535], [1, 65535]])

    def test_a_flip_alone_does_not_change_the_next_number(self):
        self.assertEqual(ask(lay(2, 1, 0), record(), record(), flip(1, 0, 0), record(), read())[4:],
                         [[1, 2], told((2, 0, []))])

    def test_twice_is_as_once(self):
        self.assertEqual(ask(lay(2, 1, 3), record(), restart(), restart(), read())[2:], [[4], [4], told((3, 0, []))])


class Cut(unittest.TestCase):
    def test_a_cut_that_was_not_used_up_is_forgotten(self):
        for k in (0, 3, 8):
            self.assertEqual(ask(lay(2, 1, 3), cut(k), restart(), record())[2:], [[3], [1, 3]])

    def test_a_cut_behind_it_stands(self):
        self.assertEqual(ask(lay(2, 1, 3), cut(9), restart(), cut(3), record())[4], [0, 3])

    def test_hurt_is_not_forgotten(self):
        self.assertEqual(ask(lay(2, 1, 3), flip(0, 0, 0), restart(), flip(0, 0, 0))[3], [-5])


if __name__ == "__main__":
    unittest.main()
