import unittest

from framering.frames import frame_bytes, frame_number, frame_values, is_right_frame


class Bytes(unittest.TestCase):
    def test_number_values_sum_number(self):
        # 5 in 3 bits, 190 in 8 and 0 in 2: 101 10111110 00, and three zeros behind them.
        self.assertEqual(frame_bytes(300, [3, 8, 2], [5, 190, 0], 2), [1, 44, 0b10110111, 0b11000000, 1, 164, 1, 44])

    def test_no_values_are_zeros(self):
        self.assertEqual(frame_bytes(0, [], [], 1), [0, 0, 0, 0, 0, 0, 0])
        self.assertEqual(frame_bytes(65535, [], [], 3), [255, 255, 0, 0, 0, 1, 254, 255, 255])

    def test_the_greatest_sum(self):
        widths = [16] * 8
        frame = frame_bytes(65535, widths, [65535] * 8, 16)
        self.assertEqual(frame, [255] * 18 + [4590 // 256, 4590 % 256] + [255, 255])
        self.assertEqual(frame_values(frame, widths, 16), [65535] * 8)

    def test_a_value_over_three_bytes(self):
        frame = frame_bytes(7, [7, 16, 1], [0, 65535, 0], 3)
        self.assertEqual(frame[2:5], [1, 255, 254])
        self.assertEqual(frame_values(frame, [7, 16, 1], 3), [0, 65535, 0])


class RightFrame(unittest.TestCase):
    def test_right(self):
        frame = frame_bytes(300, [4], [9], 2)
        self.assertTrue(is_right_frame(frame, 2))
        self.assertEqual(frame_number(frame), 300)

    def test_bits_behind_the_values_may_be_any(self):
        frame = [0, 7, 255, 255, 2, 5, 0, 7]
        self.assertTrue(is_right_frame(frame, 2))
        self.assertEqual(frame_values(frame, [3], 2), [7])

    def test_another_length(self):
        frame = frame_bytes(300, [4], [9], 2)
        for wrong in (frame + [0], frame[:-1], frame[:4], frame[:1], []):
            self.assertFalse(is_right_frame(wrong, 2))
        self.assertFalse(is_right_frame(frame, 1))
        self.assertFalse(is_right_frame(frame, 3))

    def test_each_byte_counts(self):
        frame = frame_bytes(300, [4], [9], 2)
        for place in range(len(frame)):
            for other in range(256):
                changed = frame[:place] + [other] + frame[place + 1:]
                self.assertEqual(is_right_frame(changed, 2), other == frame[place])

    def test_numbers_that_differ(self):
        frame = frame_bytes(300, [4], [9], 2)
        self.assertFalse(is_right_frame(frame[:-2] + [1, 45], 2))
        self.assertFalse(is_right_frame(frame[:-2] + [2, 44], 2))
        self.assertFalse(is_right_frame(frame[:-2] + [44, 1], 2))


if __name__ == "__main__":
    unittest.main()
