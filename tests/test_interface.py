import unittest

from framering.recorder import answers
from tests.helper import BIG, ONE_BYTE, ask, cut, flip, join, last, lay, lay_row, read, record, restart


class Interface(unittest.TestCase):
    def test_calls_stand_one_behind_another_and_each_answer_has_its_count_ahead(self):
        calls = [0, 2, 1, 7, 3, 8, 1, 0, 1, 1, 200, 4, 5, 2, 9, 3, 1, 0, 0, 5]
        expected = [1, 8, 2, 1, 7, 1, 8, 5, 1, 7, 0, 1, 200, 1, 0, 1, 0, 1, 0]
        self.assertEqual(answers(calls), expected)

    def test_a_refusal_is_one_number_with_its_count(self):
        self.assertEqual(answers([4, 0, 1, 1, 0, 0, 5, 2, 3]), [1, -2, 1, -1, 1, -2, 1, -2])

    def test_empty_rows_are_passed_over(self):
        self.assertEqual(answers([0, 2, 1, 0, 0, 1, 0, 1, 0, 5]), [1, 8, 2, 1, 0, 2, 1, 1, 7, 2, 0, 0, 0, 1, 0, 0])

    def test_rows_of_refused_calls_are_passed_over(self):
        long_row = [5] * 20
        calls = join([record(*long_row), lay_row(2, 1, 0, [0] * 40), lay(2, 1, 0, ONE_BYTE),
                      record(*long_row), record(4)])
        self.assertEqual(answers(calls), [1, -2, 1, -1, 1, 8, 1, -4, 2, 1, 0])

    def test_the_list_handed_in_is_the_same_afterwards(self):
        calls = join([lay(2, 1, 0, ONE_BYTE), record(1), cut(3), record(2), flip(0, 0, 0), restart(), read()])
        before = list(calls)
        answers(calls)
        self.assertEqual(calls, before)

    def test_a_second_time_answers_as_the_first(self):
        calls = join([restart(), lay(2, 1, 0, ONE_BYTE), record(1), record(2), flip(0, 3, 1), cut(4)])
        first = answers(calls)
        self.assertEqual(answers(calls), first)
        self.assertEqual(first[:2], [1, -2])

    def test_nothing_is_kept_for_the_next_list(self):
        answers(join([lay(2, 1, 0, ONE_BYTE), record(1), cut(0)]))
        self.assertEqual(ask(read(), record(1)), [[-2], [-2]])
        self.assertEqual(ask(lay(2, 1, 0, ONE_BYTE), read(), record(2)), [[8], [0], [1, 0]])

    def test_answers_are_a_list_of_whole_numbers(self):
        given = answers(join([lay(2, 1, 0, ONE_BYTE), record(1), cut(2), record(2), flip(0, 0, 0), restart(), read()]))
        self.assertIs(type(given), list)
        self.assertEqual({type(number) for number in given}, {int})

    def test_four_hundred_calls(self):
        parts = ask(lay(16, 1, 0, ONE_BYTE), *[record(n % 256) for n in range(398)], read())
        self.assertEqual(parts[1:-1], [[1, n] for n in range(398)])
        self.assertEqual(parts[-1][:5], [16, 382, 0, 1, 126])


class NothingLaid(unittest.TestCase):
    def test_every_call_but_lay_is_refused(self):
        calls = [record(), record(1), cut(0), flip(0, 0, 0), restart(), read()]
        self.assertEqual(ask(*calls), [[-2]] * len(calls))

    def test_it_is_looked_at_ahead_of_all_else(self):
        calls = [cut(-1), cut(1001), flip(-1, 0, 0), flip(0, BIG, 0), flip(0, 0, 8), record(-BIG, BIG)]
        self.assertEqual(ask(*calls), [[-2]] * len(calls))

    def test_a_refused_lay_lays_nothing(self):
        self.assertEqual(ask(lay(1, 1, 0), read(), lay(2, 1, 0, ONE_BYTE, ONE_BYTE), restart()),
                         [[-1], [-2], [-3], [-2]])

    def test_a_refused_cut_is_not_kept_for_a_later_lay(self):
        self.assertEqual(last(cut(0), lay(2, 1, 5), record()), [1, 5])


if __name__ == "__main__":
    unittest.main()
