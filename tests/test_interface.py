import unittest

from framering.recorder import answers
from tests.helper import (
    BIG, ONE_BYTE, ask, cut, dump, flip, hear, join, last, lay, lay_row, listen, next_number, read, record, restart,
    slot, totals)

LAID = lay(2, 1, 0, ONE_BYTE)
EVERY_CALL = [restart(), LAID, record(1), cut(3), record(2), flip(1, 0, 0), restart(), read(), slot(0), dump(),
              hear(0, 0, 3), hear(1, 0, 3), hear(2, 0, 3), listen([192, 0, 1, 5, 0, 6, 0, 1, 193]), next_number(),
              totals()]


class Unchangeable(list):
    """A list that fails at once where something would change it."""

    def refuse(self, *given):
        raise AssertionError("the list handed in was changed")

    __setitem__ = __delitem__ = __iadd__ = __imul__ = refuse
    append = extend = insert = pop = remove = clear = sort = reverse = refuse


class Interface(unittest.TestCase):
    def test_calls_stand_one_behind_another_and_each_answer_has_its_count_ahead(self):
        calls = [0, 2, 1, 7, 3, 8, 1, 0, 1, 1, 200, 4, 5, 2, 9, 3, 1, 0, 0, 5]
        expected = [1, 8, 2, 1, 7, 1, 8, 5, 1, 7, 0, 1, 200, 1, 0, 1, 0, 1, 0]
        self.assertEqual(answers(calls), expected)

    def test_a_refusal_is_one_number_with_its_count(self):
        self.assertEqual(answers([4, 0, 1, 1, 0, 0, 5, 2, 3]), [1, -2, 1, -1, 1, -2, 1, -2])

    def test_the_calls_that_ask_as_they_stand_in_the_list(self):
        calls = [0, 2, 1, 7, 3, 8, 1, 0, 1, 1, 200, 6, 1, 7, 8, 0, 9, 5, 9, 3, 192, 0, 193, 10, 11, 6, 2]
        expected = [1, 8, 2, 1, 7, 9, 8, 165, 0, 7, 200, 0, 207, 0, 7, 10, 9, 192, 0, 7, 200, 0, 207, 0, 7, 193,
                    5, 1, 7, 0, 1, 200, 1, 0, 3, 8, 1, 0, 4, 1, 0, 0, 1, 1, -1]
        self.assertEqual(answers(calls), expected)

    def test_empty_rows_are_passed_over(self):
        self.assertEqual(answers([0, 2, 1, 0, 0, 1, 0, 1, 0, 5]), [1, 8, 2, 1, 0, 2, 1, 1, 7, 2, 0, 0, 0, 1, 0, 0])

    def test_rows_of_refused_calls_are_passed_over(self):
        long_row = [5] * 20
        calls = join([record(*long_row), lay_row(2, 1, 0, [0] * 40), lay(2, 1, 0, ONE_BYTE),
                      record(*long_row), record(4)])
        self.assertEqual(answers(calls), [1, -2, 1, -1, 1, 8, 1, -4, 2, 1, 0])
        calls = join([listen([7] * 810), LAID, listen([7] * 810), listen([]), record(4)])
        self.assertEqual(answers(calls), [1, -2, 1, 8, 1, -1, 1, 0, 2, 1, 0])

    def test_the_list_handed_in_is_the_same_afterwards(self):
        calls = join(EVERY_CALL)
        before = list(calls)
        answers(calls)
        self.assertEqual(calls, before)

    def test_the_list_handed_in_is_not_changed_for_a_while_either(self):
        calls = join(EVERY_CALL)
        self.assertEqual(answers(Unchangeable(calls)), answers(calls))

    def test_a_second_time_answers_as_the_first(self):
        calls = join(EVERY_CALL + [cut(4)])
        first = answers(calls)
        self.assertEqual(answers(calls), first)
        self.assertEqual(first[:2], [1, -2])

    def test_nothing_is_kept_for_the_next_list(self):
        answers(join([lay(2, 1, 0, ONE_BYTE), record(1), cut(0)]))
        self.assertEqual(ask(read(), record(1)), [[-2], [-2]])
        self.assertEqual(ask(lay(2, 1, 0, ONE_BYTE), read(), record(2)), [[8], [0], [1, 0]])
        answers(join(EVERY_CALL))
        self.assertEqual(ask(LAID, totals(), next_number(), slot(0), listen([193])),
                         [[8], [0, 0, 0, 0], [0, 1, 0], [8] + [0] * 8, [0]])

    def test_answers_are_a_list_of_whole_numbers(self):
        given = answers(join(EVERY_CALL))
        self.assertIs(type(given), list)
        self.assertEqual({type(number) for number in given}, {int})

    def test_four_hundred_calls(self):
        parts = ask(lay(16, 1, 0, ONE_BYTE), *[record(n % 256) for n in range(398)], read())
        self.assertEqual(parts[1:-1], [[1, n] for n in range(398)])
        self.assertEqual(parts[-1][:5], [16, 382, 0, 1, 126])

    def test_four_hundred_calls_with_long_answers(self):
        layout = lay(16, 16, 0xC0C0, *[(16, 1, 0)] * 8)
        calls = [layout] + [record(*[0xC0C1] * 8)] * 16
        parts = ask(*calls, *[hear(2, 0, 0), dump(), read()] * 127, next_number(), totals())
        self.assertEqual(len(parts), 400)
        self.assertEqual(parts[-2:], [[0xC0D0, 8, 0, 1, 2, 3, 4, 5, 6, 7], [16, 0, 0, 16]])
        self.assertEqual(parts[17:20] * 127, parts[17:-2])
        self.assertEqual([part[0] for part in parts[17:20]], [15, len(parts[18]) - 1, 16])

    def test_a_list_of_seventeen_thousand_numbers(self):
        full = [0] * 791 + [192, 0, 1, 5, 0, 6, 0, 1, 193]
        calls = [LAID] + [listen(full)] * 20 + [listen([1] * 810)] + [totals()] * 130
        flat = join(calls)
        self.assertGreater(len(flat), 16900)
        self.assertLessEqual(len(flat), 17000)
        self.assertEqual(ask(*calls), [[8]] + [[1, 1, 0, 1, 5]] * 20 + [[-1]] + [[0, 0, 0, 0]] * 130)


class NothingLaid(unittest.TestCase):
    def test_every_call_but_lay_is_refused(self):
        calls = [record(), record(1), cut(0), flip(0, 0, 0), restart(), read(), slot(0), dump(), hear(0, 0, 0),
                 listen([]), listen([192, 193]), next_number(), totals()]
        self.assertEqual(ask(*calls), [[-2]] * len(calls))

    def test_it_is_looked_at_ahead_of_all_else(self):
        calls = [cut(-1), cut(1001), flip(-1, 0, 0), flip(0, BIG, 0), flip(0, 0, 8), record(-BIG, BIG),
                 slot(-1), slot(BIG), hear(3, 0, 0), hear(0, -1, 0), hear(0, 0, 1001), hear(2, 0, 0), hear(2, 0, 8),
                 listen([256]), listen([-1]), listen([0] * 801)]
        self.assertEqual(ask(*calls), [[-2]] * len(calls))

    def test_a_refused_lay_lays_nothing(self):
        self.assertEqual(ask(lay(1, 1, 0), read(), lay(2, 1, 0, ONE_BYTE, ONE_BYTE), restart()),
                         [[-1], [-2], [-3], [-2]])

    def test_a_refused_cut_is_not_kept_for_a_later_lay(self):
        self.assertEqual(last(cut(0), lay(2, 1, 5), record()), [1, 5])


if __name__ == "__main__":
    unittest.main()
