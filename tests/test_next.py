import unittest

from tests.helper import ONE_BYTE, ask, cut, flip, last, lay, next_number, record, restart, totals

PARAMETERS = [(1, 1, 0), (2, 2, 1), (1, 4, 2), (3, 8, 7), (2, 16, 0), (1, 2, 0), (1, 16, 15), (1, 1, 0)]


def expected_at(number):
    places = [place for place, (width, period, phase) in enumerate(PARAMETERS) if number % period == phase]
    return [number, len(places)] + places


class Parameters(unittest.TestCase):
    def test_none(self):
        self.assertEqual(last(lay(2, 1, 9), next_number()), [9, 0])

    def test_several_periods_and_phases_written_out(self):
        layout = lay(2, 2, 0, (8, 2, 1), (4, 4, 2), (4, 1, 0), (1, 4, 0))
        parts = ask(layout, next_number(), record(3, 1), next_number(), record(3, 3), next_number(),
                    record(3, 3), next_number(), record(3, 3), next_number())
        self.assertEqual(parts[1::2], [[0, 2, 2, 3], [1, 2, 0, 2], [2, 2, 1, 2], [3, 2, 0, 2], [4, 2, 2, 3]])

    def test_each_first_number(self):
        for first in list(range(33)) + [255, 256, 32767, 65519, 65534, 65535]:
            self.assertEqual(last(lay(2, 2, first, *PARAMETERS), next_number()), expected_at(first))

    def test_through_records(self):
        calls = [lay(5, 2, 65519, *PARAMETERS)]
        expected = [[9]]
        for number in range(65519, 65536):
            count = expected_at(number)[1]
            calls += [next_number(), record(*[1] * count)]
            expected += [expected_at(number), [1, number]]
        self.assertEqual(ask(*calls, next_number()), expected + [expected_at(65536)])

    def test_twelve(self):
        self.assertEqual(last(lay(2, 2, 3, *[(1, 1, 0)] * 12), next_number()), [3, 12] + list(range(12)))


class LastNumber(unittest.TestCase):
    def test_65536_has_the_parameters_of_its_number_too(self):
        layout = lay(2, 1, 65535, (1, 2, 1), (1, 2, 0), (1, 16, 0), (1, 16, 15), (1, 1, 0))
        parts = ask(layout, next_number(), record(1, 1, 1), next_number(), record(1, 1, 1), next_number())
        self.assertEqual(parts[1:], [[65535, 3, 0, 3, 4], [1, 65535], [65536, 3, 1, 2, 4], [-6], [65536, 3, 1, 2, 4]])


class Number(unittest.TestCase):
    def test_behind_lost_power_it_is_the_one_found(self):
        parts = ask(lay(2, 1, 4, ONE_BYTE), record(1), record(2), cut(1), record(3), next_number(),
                    flip(1, 0, 0), next_number(), cut(0), record(3), next_number())
        self.assertEqual(parts[5:], [[6, 1, 0], [0], [6, 1, 0], [0], [0, 6], [4, 1, 0]])

    def test_behind_a_restart_it_is_the_one_found(self):
        parts = ask(lay(2, 1, 4), record(), record(), flip(1, 0, 0), next_number(), restart(), next_number())
        self.assertEqual(parts[4:], [[6, 0], [5], [5, 0]])

    def test_behind_refusals_it_is_the_same(self):
        parts = ask(lay(2, 1, 4, ONE_BYTE), record(256), record(), lay(2, 1, 65536), lay(2, 1, 0, (9, 1, 0)),
                    cut(-1), flip(2, 0, 0), next_number())
        self.assertEqual(parts[7], [4, 1, 0])

    def test_behind_a_second_lay_it_is_the_one_told(self):
        self.assertEqual(last(lay(2, 1, 4, ONE_BYTE), record(1), lay(2, 1, 9), next_number()), [9, 0])

    def test_it_changes_nothing(self):
        parts = ask(lay(2, 1, 4), cut(3), next_number(), next_number(), record(), record(), totals())
        self.assertEqual(parts[2:], [[4, 0], [4, 0], [0, 4], [1, 4], [1, 1, 0, 1]])


if __name__ == "__main__":
    unittest.main()
