import unittest

from framering.frames import frame_bytes
from framering.ring import Ring

OLD = frame_bytes(5, [8], [17], 1)
NEW = frame_bytes(7, [8], [34], 1)


class Slots(unittest.TestCase):
    def test_all_bytes_are_0_at_first(self):
        for size in (2, 16):
            for length in (1, 16):
                self.assertEqual(Ring(size, length).slots, [[0] * (length + 7)] * size)

    def test_a_whole_frame_stands_behind_165(self):
        ring = Ring(2, 1)
        self.assertTrue(ring.write_frame(7, NEW, None))
        self.assertEqual(ring.slots, [[0] * 8, [165] + NEW])

    def test_only_the_first_bytes_are_written(self):
        for limit in range(12):
            ring = Ring(2, 1)
            ring.write_frame(5, OLD, None)
            self.assertEqual(ring.write_frame(7, NEW, limit), limit >= 9)
            if limit == 0:
                expected = [165] + OLD
            elif limit < 9:
                expected = [0] + NEW[:limit - 1] + OLD[limit - 1:]
            else:
                expected = [165] + NEW
            self.assertEqual(ring.slots, [[0] * 8, expected])

    def test_a_flip_changes_one_bit_to_0_or_1(self):
        for place in range(8):
            for bit in range(8):
                ring = Ring(2, 1)
                ring.write_frame(7, NEW, None)
                before = list(ring.slots[1])
                ring.flip_bit(1, place, bit)
                worth = 2 ** bit
                changed = before[place] - worth if before[place] // worth % 2 else before[place] + worth
                self.assertEqual(ring.slots, [[0] * 8, before[:place] + [changed] + before[place + 1:]])


class Good(unittest.TestCase):
    def test_done_right_and_in_its_place(self):
        ring = Ring(2, 1)
        ring.slots[1] = [165] + NEW
        self.assertEqual([ring.is_good(0), ring.is_good(1)], [False, True])

    def test_not_done(self):
        ring = Ring(2, 1)
        for done in range(256):
            ring.slots[1] = [done] + NEW
            self.assertEqual(ring.is_good(1), done == 165)

    def test_in_the_wrong_slot(self):
        ring = Ring(2, 1)
        ring.slots[0] = [165] + NEW
        self.assertFalse(ring.is_good(0))

    def test_done_but_no_right_frame(self):
        ring = Ring(2, 1)
        ring.slots[1] = [165] + NEW[:2] + [35] + NEW[3:]
        self.assertFalse(ring.is_good(1))


if __name__ == "__main__":
    unittest.main()
