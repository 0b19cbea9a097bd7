import unittest

from tests.helper import (
    BIG, ONE_BYTE, ask, cut, dump, flip, frame, hear, last, lay, listen, read, record, sent, slot, told, totals)

LOST, DOUBLED, FLIPPED = 0, 1, 2

# Frames 6, 7 and 8; of 9 bytes each on the line, from the places 0, 9 and 18 on.
THREE = [lay(4, 1, 6, ONE_BYTE), record(61), record(71), record(81)]
SIX, SEVEN, EIGHT = (6, 0, [61]), (7, 0, [71]), (8, 0, [81])
ALL = told(SIX, SEVEN, EIGHT)
NO_SIX = told(SEVEN, EIGHT)
NO_SEVEN = told(SIX, (8, 1, [81]))
NO_EIGHT = told(SIX, SEVEN)

# Frames whose numbers, values and sums hold bytes that are sent as two.
ESCAPES = [lay(3, 2, 0xC0C1, (8, 1, 0), (8, 1, 0)), record(192, 193), record(194, 0), record(1, 2)]


def damage(what, p, n):
    return last(*THREE, hear(what, p, n))


def damaged_by_hand(some, what, p, n):
    if what == FLIPPED:
        return [byte ^ (2 ** n) if place == p else byte for place, byte in enumerate(some)]
    struck = [byte for place, byte in enumerate(some) if p <= place < p + n]
    ahead = [byte for place, byte in enumerate(some) if place < p]
    behind = [byte for place, byte in enumerate(some) if place >= p + n]
    return ahead + struck * (2 if what == DOUBLED else 0) + behind


class Ranges(unittest.TestCase):
    def test_what(self):
        for what in (0, 1, 2):
            self.assertNotEqual(damage(what, 0, 0), [-1])
        for what in (-1, 3, BIG, -BIG):
            self.assertEqual(damage(what, 0, 0), [-1])

    def test_p(self):
        self.assertEqual(last(*THREE, dump())[0], 27)
        for what in (LOST, DOUBLED, FLIPPED):
            for p in (0, 1, 13, 26):
                self.assertNotEqual(damage(what, p, 0), [-1])
            for p in (-1, 28, BIG, -BIG):
                self.assertEqual(damage(what, p, 0), [-1])

    def test_p_behind_the_last_byte(self):
        for n in (0, 1, 1000):
            self.assertEqual(damage(LOST, 27, n), ALL)
            self.assertEqual(damage(DOUBLED, 27, n), ALL)
        for n in range(8):
            self.assertEqual(damage(FLIPPED, 27, n), [-1])

    def test_n(self):
        for what in (LOST, DOUBLED):
            for n in (0, 7, 8, 999, 1000):
                self.assertNotEqual(damage(what, 0, n), [-1])
            for n in (-1, 1001, BIG, -BIG):
                self.assertEqual(damage(what, 0, n), [-1])
        for n in range(8):
            self.assertNotEqual(damage(FLIPPED, 0, n), [-1])
        for n in (-1, 8, 9, 1000, 1001, BIG, -BIG):
            self.assertEqual(damage(FLIPPED, 0, n), [-1])

    def test_p_goes_by_what_is_sent_at_the_time(self):
        parts = ask(*THREE, flip(7 % 4, 0, 0), hear(LOST, 18, 0), hear(LOST, 19, 0), hear(FLIPPED, 17, 0),
                    hear(FLIPPED, 18, 0), record(192), hear(LOST, 28, 0), hear(LOST, 29, 0))
        self.assertEqual(parts[5:9], [NO_SEVEN, [-1], told(SIX), [-1]])
        self.assertEqual(parts[10:], [told(SIX, (8, 1, [81]), (9, 0, [192])), [-1]])

    def test_nothing_sent(self):
        for start in ([lay(2, 1, 0)], [lay(2, 1, 0), cut(3), record()], [lay(2, 1, 0), record(), flip(0, 0, 0)]):
            for what in (LOST, DOUBLED):
                for n in (0, 1, 1000):
                    self.assertEqual(last(*start, hear(what, 0, n)), [0])
                self.assertEqual(last(*start, hear(what, 1, 0)), [-1])
                self.assertEqual(last(*start, hear(what, 0, 1001)), [-1])
            self.assertEqual(last(*start, hear(FLIPPED, 0, 0)), [-1])
            self.assertEqual(last(*start, hear(FLIPPED, 1, 0)), [-1])


class Lost(unittest.TestCase):
    def test_none_lost(self):
        for p in range(28):
            self.assertEqual(damage(LOST, p, 0), ALL)

    def test_the_first_byte_and_the_last(self):
        self.assertEqual(damage(LOST, 0, 1), NO_SIX)
        self.assertEqual(damage(LOST, 26, 1), NO_EIGHT)

    def test_each_single_byte_loses_its_frame_alone(self):
        for p in range(27):
            self.assertEqual(damage(LOST, p, 1), (NO_SIX, NO_SEVEN, NO_EIGHT)[p // 9])

    def test_whole_frames(self):
        self.assertEqual(damage(LOST, 0, 9), NO_SIX)
        self.assertEqual(damage(LOST, 9, 9), NO_SEVEN)
        self.assertEqual(damage(LOST, 18, 9), NO_EIGHT)
        self.assertEqual(damage(LOST, 0, 18), told(EIGHT))
        self.assertEqual(damage(LOST, 9, 18), told(SIX))
        self.assertEqual(damage(LOST, 0, 27), [0])

    def test_over_an_end_and_a_begin(self):
        self.assertEqual(damage(LOST, 8, 2), told(EIGHT))
        self.assertEqual(damage(LOST, 5, 9), told(EIGHT))

    def test_from_within_one_frame_into_the_same_place_of_the_next(self):
        # The numbers' first bytes are alike, so behind 192 and 0 the rest of frame 7 makes it whole.
        self.assertEqual(damage(LOST, 2, 9), NO_SIX)
        self.assertEqual(damage(LOST, 1, 9), NO_SIX)
        self.assertEqual(damage(LOST, 3, 9), told(EIGHT))

    def test_beyond_the_end(self):
        for n in (28, 999, 1000):
            self.assertEqual(damage(LOST, 0, n), [0])
            self.assertEqual(damage(LOST, 9, n), told(SIX))
            self.assertEqual(damage(LOST, 26, n), NO_EIGHT)


class Doubled(unittest.TestCase):
    def test_none_doubled(self):
        for p in range(28):
            self.assertEqual(damage(DOUBLED, p, 0), ALL)

    def test_the_first_byte_and_the_last(self):
        self.assertEqual(damage(DOUBLED, 0, 1), ALL)
        self.assertEqual(damage(DOUBLED, 26, 1), ALL)

    def test_each_single_byte_within_a_frame_loses_it(self):
        for p in range(27):
            expected = ALL if p % 9 in (0, 8) else (NO_SIX, NO_SEVEN, NO_EIGHT)[p // 9]
            self.assertEqual(damage(DOUBLED, p, 1), expected)

    def test_whole_frames_are_told_once(self):
        for p, n in ((0, 9), (9, 9), (18, 9), (0, 18), (9, 18), (0, 27)):
            self.assertEqual(damage(DOUBLED, p, n), ALL)

    def test_beyond_the_end(self):
        for n in (28, 999, 1000):
            self.assertEqual(damage(DOUBLED, 0, n), ALL)
            self.assertEqual(damage(DOUBLED, 20, n), ALL)
            self.assertEqual(damage(DOUBLED, 26, n), ALL)

    def test_from_a_begin_on(self):
        # The doubled bytes begin the frame anew, so it is heard whole behind them.
        for n in range(1, 9):
            self.assertEqual(damage(DOUBLED, 9, n), ALL)

    def test_they_stand_behind_the_bytes_doubled_all_together(self):
        # 6 and its end doubled together are 6, end, 6, end; one by one they would be 6, 6, end, end.
        self.assertEqual(damage(DOUBLED, 7, 2), ALL)

    def test_a_byte_that_is_sent_as_two(self):
        start = [lay(2, 1, 0, ONE_BYTE), record(194)]
        self.assertEqual(last(*start, dump()), [11, 192, 0, 0, 194, 2, 0, 194, 2, 0, 0, 193])
        for p, n in ((3, 1), (4, 1), (3, 2)):
            self.assertEqual(last(*start, hear(DOUBLED, p, n)), [0])


class Flipped(unittest.TestCase):
    def test_each_bit_of_each_byte_loses_its_frame_alone(self):
        for p in range(27):
            for n in range(8):
                self.assertEqual(damage(FLIPPED, p, n), (NO_SIX, NO_SEVEN, NO_EIGHT)[p // 9], (p, n))

    def test_an_end_made_a_begin(self):
        self.assertEqual(damage(FLIPPED, 8, 0), NO_SIX)

    def test_a_begin_made_an_end(self):
        self.assertEqual(damage(FLIPPED, 9, 0), NO_SEVEN)

    def test_a_byte_made_an_escape(self):
        start = [lay(2, 1, 0, ONE_BYTE), record(195), record(66)]
        self.assertEqual(last(*start, hear(FLIPPED, 3, 0)), told((1, 0, [66])))
        self.assertEqual(last(*start, hear(FLIPPED, 12, 7)), told((0, 0, [195])))


class Beside(unittest.TestCase):
    """Every damage there is to a few frames, beside listen and beside what was recorded."""

    def every_damage(self, start):
        count, *some = last(*start, dump())
        for what in (LOST, DOUBLED):
            for p in range(count + 1):
                for n in list(range(count - p + 2)) + [1000]:
                    yield some, what, p, n
        for p in range(count):
            for n in range(8):
                yield some, FLIPPED, p, n

    def test_hear_answers_as_listen_does_of_the_damaged_bytes(self):
        for start in (THREE, ESCAPES):
            damages = list(self.every_damage(start))
            for at in range(0, len(damages), 15):
                some_damages = damages[at:at + 15]
                heard = ask(*start, *[hear(what, p, n) for some, what, p, n in some_damages])[4:]
                listened = ask(*start, *[listen(damaged_by_hand(*each)) for each in some_damages])[4:]
                self.assertEqual(heard, listened)

    def test_whatever_is_heard_was_recorded_and_rises(self):
        for start in (THREE, ESCAPES):
            recorded = frames_in(last(*start, read()))
            for some, what, p, n in self.every_damage(start):
                heard = frames_in(last(*start, hear(what, p, n)))
                self.assertEqual(heard, [each for each in recorded if each in heard], (what, p, n))


def frames_in(answer):
    frames = []
    place = 1
    for each in range(answer[0]):
        end = place + 3 + answer[place + 2]
        frames.append((answer[place], answer[place + 3:end]))
        place = end
    return frames


class Unchanged(unittest.TestCase):
    def test_the_damage_is_not_kept(self):
        whole = sent(frame(6, 61), frame(7, 71), frame(8, 81))
        for each in (hear(LOST, 0, 27), hear(DOUBLED, 3, 5), hear(FLIPPED, 3, 3), hear(FLIPPED, 27, 0)):
            parts = ask(*THREE, each, dump(), read(), slot(2), totals(), hear(LOST, 0, 0))
            self.assertEqual(parts[5:], [[27] + whole, ALL, [8, 165] + frame(6, 61), [3, 0, 0, 3], ALL])

    def test_a_cut_and_a_hurt_slot_stay(self):
        parts = ask(*THREE, flip(3, 0, 0), cut(3), hear(LOST, 0, 0), flip(3, 0, 0), record(9))
        self.assertEqual(parts[6:], [NO_SEVEN, [-5], [0, 9]])


if __name__ == "__main__":
    unittest.main()
