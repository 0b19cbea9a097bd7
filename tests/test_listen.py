import unittest

from tests.helper import (
    BIG, ONE_BYTE, ask, cut, dump, flip, frame, last, lay, listen, read, record, sent, told, totals)

LAYOUT = lay(2, 1, 0, ONE_BYTE)


def heard(some, layout=LAYOUT):
    return last(layout, listen(some))


class Ranges(unittest.TestCase):
    def test_how_many(self):
        for count in (0, 1, 799, 800):
            self.assertEqual(heard([0] * count), [0])
        for count in (801, 802, 810):
            self.assertEqual(heard([0] * count), [-1])

    def test_a_right_frame_at_the_end_of_800_and_801(self):
        whole = sent(frame(3, 4))
        self.assertEqual(heard([0] * (800 - len(whole)) + whole), told((3, 0, [4])))
        self.assertEqual(heard([0] * (801 - len(whole)) + whole), [-1])

    def test_each_is_a_byte(self):
        for byte in range(256):
            self.assertEqual(heard([byte]), [0])
        for wrong in (-1, 256, BIG, -BIG):
            for place in (0, 1, 799):
                some = [0] * 800
                some[place] = wrong
                self.assertEqual(heard(some), [-1])

    def test_a_wrong_one_behind_a_whole_frame_tells_nothing_of_it(self):
        self.assertEqual(heard(sent(frame(3, 4)) + [256]), [-1])
        self.assertEqual(heard([-1] + sent(frame(3, 4))), [-1])


class Told(unittest.TestCase):
    def test_nothing(self):
        self.assertEqual(heard([]), [0])

    def test_one_written_out(self):
        self.assertEqual(heard([192, 0, 7, 200, 0, 207, 0, 7, 193]), [1, 7, 0, 1, 200])

    def test_frames_that_were_never_recorded(self):
        self.assertEqual(heard(sent(frame(0, 1), frame(65535, 255))), told((0, 0, [1]), (65535, 65534, [255])))

    def test_missing_numbers_are_counted_between_those_told(self):
        numbers = [5, 6, 8, 20, 300]
        expected = told((5, 0, [5]), (6, 0, [6]), (8, 1, [8]), (20, 11, [20]), (300, 279, [44]))
        self.assertEqual(heard(sent(*[frame(number, number % 256) for number in numbers])), expected)

    def test_a_frame_that_is_not_told_is_missing(self):
        spoilt = frame(6, 6)[:-1] + [7]
        self.assertEqual(heard(sent(frame(5, 5), spoilt, frame(7, 7))), told((5, 0, [5]), (7, 1, [7])))

    def test_values_of_the_parameters_of_its_number(self):
        layout = lay(3, 2, 0, (4, 2, 1), (8, 1, 0), (4, 4, 2))
        some = sent(frame(8, 0xAB, 0xCD), frame(9, 0xAB, 0xCD), frame(10, 0xAB, 0xCD), frame(65535, 0xAB, 0xCD))
        self.assertEqual(heard(some, layout), told((8, 0, [0xAB]), (9, 0, [0xA, 0xBC]), (10, 0, [0xAB, 0xC]),
                                                   (65535, 65524, [0xA, 0xBC])))

    def test_bits_behind_the_values_may_be_any(self):
        self.assertEqual(heard(sent(frame(4, 255)), lay(2, 1, 0, (3, 1, 0))), told((4, 0, [7])))
        self.assertEqual(heard(sent(frame(4, 255)), lay(2, 1, 0)), told((4, 0, [])))

    def test_the_number_needs_no_slot_and_no_first(self):
        self.assertEqual(heard(sent(frame(4, 1)), lay(2, 1, 500, ONE_BYTE)), told((4, 0, [1])))

    def test_the_longest_frame(self):
        data = [0xC0, 0xC1, 0xC2, 0xFF] * 4
        layout = lay(2, 16, 0, *[(16, 1, 0)] * 8)
        self.assertEqual(heard(sent(frame(0xC2C0, *data)), layout), told((0xC2C0, 0, [0xC0C1, 0xC2FF] * 4)))

    def test_each_value_goes_over_the_line(self):
        for value in range(256):
            self.assertEqual(heard(sent(frame(value, value))), told((value, 0, [value])))


class NoFrameBegun(unittest.TestCase):
    def test_bytes_ahead_between_and_behind_are_nothing(self):
        noise = [0, 1, 2, 165, 191, 194, 195, 255, 194]
        some = noise + sent(frame(1, 5)) + noise + sent(frame(2, 6)) + noise
        self.assertEqual(heard(some), told((1, 0, [5]), (2, 0, [6])))

    def test_an_end_is_nothing(self):
        self.assertEqual(heard([193]), [0])
        self.assertEqual(heard([193, 193] + sent(frame(1, 5)) + [193, 193] + sent(frame(2, 6))),
                         told((1, 0, [5]), (2, 0, [6])))

    def test_a_frame_without_its_begin_or_end(self):
        whole = sent(frame(1, 5))
        self.assertEqual(heard(whole[1:]), [0])
        self.assertEqual(heard(whole[:-1]), [0])
        self.assertEqual(heard(whole[1:] + whole), told((1, 0, [5])))

    def test_a_frame_is_told_once_for_two_ends(self):
        whole = sent(frame(1, 5))
        self.assertEqual(heard(whole + [193]), told((1, 0, [5])))

    def test_the_bytes_behind_an_end_do_not_go_on_with_the_frame(self):
        whole = sent(frame(1, 5))
        for cut_at in range(2, len(whole)):
            self.assertEqual(heard(whole[:cut_at] + [193] + whole[cut_at:]),
                             told((1, 0, [5])) if cut_at == len(whole) - 1 else [0])


class BegunAnew(unittest.TestCase):
    def test_whatever_was_there_before_is_gone(self):
        whole = sent(frame(1, 5))
        other = sent(frame(2, 6))
        for kept in range(len(other)):
            self.assertEqual(heard(other[:kept] + whole), told((1, 0, [5])))

    def test_a_begin_alone_and_a_begin_within(self):
        whole = sent(frame(1, 5))
        self.assertEqual(heard([192, 192] + whole), told((1, 0, [5])))
        self.assertEqual(heard(whole[:4] + [192] + whole[4:]), [0])

    def test_a_frame_with_no_bytes(self):
        self.assertEqual(heard([192, 193]), [0])

    def test_a_spoilt_frame_is_begun_anew_unspoilt(self):
        self.assertEqual(heard([192, 194, 3] + sent(frame(1, 5))), told((1, 0, [5])))
        self.assertEqual(heard([192, 194, 3, 193] + sent(frame(1, 5))), told((1, 0, [5])))


class Waiting(unittest.TestCase):
    def test_a_194_that_waits_when_the_frame_ends(self):
        whole = sent(frame(1, 5))
        self.assertEqual(heard(whole[:-1] + [194, 193]), [0])
        self.assertEqual(heard(whole[:-1] + [194, 193] + sent(frame(2, 6))), told((2, 0, [6])))

    def test_a_194_that_waits_when_a_frame_begins(self):
        for behind in ([1, 5], [0, 1], [2]):
            whole = sent(frame(0x0102, 5))
            self.assertEqual(heard([192] + behind + [194] + whole), told((0x0102, 0, [5])))

    def test_a_194_that_waited_at_an_end_does_not_wait_in_the_next_frame(self):
        # The next frame's first byte is 0, which would be taken as 192 if the 194 still waited.
        self.assertEqual(heard([192, 194, 193] + sent(frame(1, 5))), told((1, 0, [5])))
        self.assertEqual(heard([192, 194, 192, 0, 1, 5, 0, 6, 0, 1, 193]), told((1, 0, [5])))

    def test_a_194_where_no_frame_has_begun_does_not_wait(self):
        self.assertEqual(heard([194, 192, 0, 1, 5, 0, 6, 0, 1, 193]), told((1, 0, [5])))

    def test_0_1_and_2_behind_it(self):
        for step in range(3):
            self.assertEqual(heard([192, 0, 0, 194, step, 0, 194, step, 0, 0, 193]), told((0, 0, [192 + step])))

    def test_any_other_byte_behind_it_spoils_the_frame(self):
        for byte in range(3, 256):
            # With no byte for these two the frame would be right, and so it would be with 192 + 0 taken for them.
            self.assertEqual(heard([192, 0, 1, 5, 194, byte, 0, 6, 0, 1, 193]), [0])
            self.assertEqual(heard([192, 0, 0, 194, byte, 0, 194, 0, 0, 0, 193]), [0])
            self.assertEqual(heard([192, 0, 0, 194, byte, 0, (192 + byte) % 256, 0, 0, 193]), [0])

    def test_a_spoilt_frame_stays_spoilt_until_it_ends(self):
        # What stands behind the spoiling byte would be a right frame alone.
        self.assertEqual(heard([192, 194, 9] + frame(1, 5) + [193]), [0])
        self.assertEqual(heard([192] + frame(1, 5) + [194, 9, 193]), [0])

    def test_194_behind_it_waits_no_more(self):
        self.assertEqual(heard([192, 194, 194] + frame(1, 5) + [193]), [0])
        self.assertEqual(heard([192, 0, 0, 194, 194, 0, 0, 194, 0, 0, 0, 193]), [0])
        self.assertEqual(heard([192, 194, 194, 193] + sent(frame(1, 5))), told((1, 0, [5])))


class WrongFrames(unittest.TestCase):
    def test_too_short_and_too_long(self):
        for length in (1, 2, 16):
            layout = lay(2, length, 0)
            for other in range(1, 17):
                self.assertEqual(heard(sent(frame(3, *[0] * other)), layout),
                                 told((3, 0, [])) if other == length else [0])

    def test_one_byte_less_or_more_at_any_place(self):
        # All bytes are 0, so nothing but how many there are is wrong.
        for count in range(0, 20):
            self.assertEqual(heard([192] + [0] * count + [193]), told((0, 0, [0])) if count == 7 else [0])
        self.assertEqual(heard([192] + [0] * 798 + [193]), [0])

    def test_each_byte_of_it_counts(self):
        right = frame(300, 9)
        for place in range(len(right)):
            for byte in range(256):
                changed = right[:place] + [byte] + right[place + 1:]
                self.assertEqual(heard(sent(changed)), told((300, 0, [9])) if byte == right[place] else [0])

    def test_a_wrong_sum(self):
        for low in (5, 7):
            self.assertEqual(heard(sent([0, 1, 5, 0, low, 0, 1])), [0])
        self.assertEqual(heard(sent([0, 1, 5, 1, 6, 0, 1])), [0])
        self.assertEqual(heard(sent([0, 1, 5, 6, 0, 0, 1])), [0])

    def test_numbers_that_differ(self):
        for number in ([0, 2], [1, 1], [1, 0]):
            self.assertEqual(heard(sent([0, 1, 5, 0, 6] + number)), [0])


class Rising(unittest.TestCase):
    def test_the_same_and_lesser_numbers_are_not_told(self):
        some = sent(frame(7, 1), frame(7, 1), frame(7, 2), frame(6, 3), frame(0, 4), frame(8, 5))
        self.assertEqual(heard(some), told((7, 0, [1]), (8, 0, [5])))

    def test_the_first_may_be_0(self):
        self.assertEqual(heard(sent(frame(0, 1), frame(0, 2), frame(1, 3))), told((0, 0, [1]), (1, 0, [3])))

    def test_it_is_beside_the_one_told_last_not_the_one_heard_last(self):
        some = sent(frame(7, 1), frame(3, 1), frame(4, 1), frame(9, 2))
        self.assertEqual(heard(some), told((7, 0, [1]), (9, 1, [2])))
        wrong = frame(500, 1)[:-1] + [0]
        self.assertEqual(heard(sent(frame(7, 1), wrong, frame(9, 2))), told((7, 0, [1]), (9, 1, [2])))

    def test_numbers_are_not_taken_by_their_low_byte(self):
        self.assertEqual(heard(sent(frame(255, 1), frame(256, 2))), told((255, 0, [1]), (256, 0, [2])))

    def test_nothing_is_kept_for_the_next_listening(self):
        some = sent(frame(7, 1))
        self.assertEqual(ask(LAYOUT, listen(some), listen(some), listen(some[:4]), listen(some[4:]))[1:],
                         [told((7, 0, [1]))] * 2 + [[0], [0]])


class Unchanged(unittest.TestCase):
    def test_it_changes_nothing(self):
        parts = ask(LAYOUT, record(1), cut(3), listen(sent(frame(9, 9))), read(), totals(), record(2), flip(0, 0, 0))
        self.assertEqual(parts[3:], [told((9, 0, [9])), told((0, 0, [1])), [1, 0, 0, 1], [0, 1], [0]])

    def test_what_is_sent_is_heard_as_it_is_read(self):
        calls = [lay(4, 2, 190, (8, 1, 0), (4, 2, 1))]
        for number in range(190, 197):
            calls.append(record(*([number] if number % 2 == 0 else [number, 9])))
        parts = ask(*calls, flip(192 % 4, 4, 4), dump(), read())
        self.assertEqual(last(*calls, listen(parts[-2][1:])), parts[-1])


if __name__ == "__main__":
    unittest.main()
