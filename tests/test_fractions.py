import unittest
from fractions import Fraction

from lotmeal.errors import NoNumber
from lotmeal.fractions import common_bottom, fraction, minus, over, plus, sum_of, times, under

LONG = 10 ** 59 + 7
OTHER_LONG = 3 * 10 ** 59 + 1
SOME = [(0, 1), (1, 1), (-1, 1), (2, 1), (1, 2), (-1, 2), (2, 3), (-7, 3), (5, 6), (3, 4), (-9, 10), (100, 7),
        (LONG, 1), (-LONG, 1), (LONG, OTHER_LONG), (-OTHER_LONG, LONG), (1, LONG), (-3, OTHER_LONG)]


def as_tuple(value):
    return (value.numerator, value.denominator)


class MadeTest(unittest.TestCase):
    def check_made(self, made, top, bottom):
        self.assertEqual(made, as_tuple(Fraction(top, bottom)))
        self.assertIs(type(made), tuple)
        self.assertEqual([type(part) for part in made], [int, int])

    def test_all_small_ones(self):
        for top in range(-30, 31):
            for bottom in range(-30, 31):
                if bottom != 0:
                    self.check_made(fraction(top, bottom), top, bottom)

    def test_as_the_document_tells(self):
        self.assertEqual(fraction(0, 5), (0, 1))
        self.assertEqual(fraction(0, -5), (0, 1))
        self.assertEqual(fraction(2), (2, 1))
        self.assertEqual(fraction(6, -4), (-3, 2))
        self.assertEqual(fraction(-6, -4), (3, 2))
        self.assertEqual(fraction(-6, 4), (-3, 2))

    def test_the_bottom_left_out(self):
        for top in (-4, -1, 0, 1, 12, LONG, -LONG, 10 ** 300):
            self.assertEqual(fraction(top), (top, 1))

    def test_named_arguments(self):
        self.assertEqual(fraction(top=4, bottom=6), (2, 3))

    def test_long_numbers(self):
        left = 10 ** 120 + 3
        right = 7 ** 150
        shared = 2 ** 400
        for top, bottom in ((left, right), (left * shared, right * shared), (-left * shared, right),
                            (left, -right * left), (left * shared, -shared), (0, -left)):
            self.check_made(fraction(top, bottom), top, bottom)

    def test_numbers_of_four_thousand_figures(self):
        top = 10 ** 3999 + 9
        bottom = 3 ** 8000
        self.check_made(fraction(top, bottom), top, bottom)
        self.check_made(fraction(-top * 6, -4), -top * 6, -4)

    def test_a_bottom_0_is_refused(self):
        for top in (-3, 0, 1, LONG):
            with self.assertRaises(NoNumber):
                fraction(top, 0)

    def test_a_truth_is_no_whole_number(self):
        for top, bottom in ((True, 1), (False, 1), (1, True), (1, False), (1.0, 1), ("1", 1), (1, None)):
            with self.subTest(top=top, bottom=bottom):
                with self.assertRaises(NoNumber):
                    fraction(top, bottom)


class TwoTest(unittest.TestCase):
    def test_all_pairs(self):
        for one in SOME:
            for other in SOME:
                with self.subTest(one=one, other=other):
                    left = Fraction(*one)
                    right = Fraction(*other)
                    self.assertEqual(plus(one, other), as_tuple(left + right))
                    self.assertEqual(minus(one, other), as_tuple(left - right))
                    self.assertEqual(times(one, other), as_tuple(left * right))
                    self.assertIs(under(one, other), left < right)

    def test_all_quotients(self):
        for one in SOME:
            for other in SOME:
                if other != (0, 1):
                    with self.subTest(one=one, other=other):
                        self.assertEqual(over(one, other), as_tuple(Fraction(*one) / Fraction(*other)))

    def test_plain_ones(self):
        self.assertEqual(plus((1, 2), (1, 2)), (1, 1))
        self.assertEqual(plus((1, 6), (1, 3)), (1, 2))
        self.assertEqual(minus((1, 3), (1, 2)), (-1, 6))
        self.assertEqual(minus((1, 2), (1, 2)), (0, 1))
        self.assertEqual(times((2, 3), (-3, 4)), (-1, 2))
        self.assertEqual(times((2, 3), (0, 1)), (0, 1))
        self.assertEqual(over((1, 2), (-1, 4)), (-2, 1))
        self.assertEqual(over((0, 1), (-1, 4)), (0, 1))

    def test_over_refuses_0(self):
        for one in SOME:
            with self.assertRaises(NoNumber):
                over(one, (0, 1))

    def test_under_at_its_edges(self):
        self.assertIs(under((1, 2), (1, 2)), False)
        self.assertIs(under((0, 1), (0, 1)), False)
        self.assertIs(under((-1, 2), (-1, 3)), True)
        self.assertIs(under((-1, 3), (-1, 2)), False)
        self.assertIs(under((-1, 2), (0, 1)), True)
        self.assertIs(under((0, 1), (-1, 2)), False)
        self.assertIs(under((LONG, LONG + 1), (LONG + 1, LONG + 2)), True)
        self.assertIs(under((LONG + 1, LONG + 2), (LONG, LONG + 1)), False)


class ManyTest(unittest.TestCase):
    def test_sum_of_none_and_one(self):
        self.assertEqual(sum_of([]), (0, 1))
        for one in SOME:
            self.assertEqual(sum_of([one]), one)

    def test_sum_of_many(self):
        self.assertEqual(sum_of([(1, 2), (1, 3), (1, 6)]), (1, 1))
        self.assertEqual(sum_of([(1, 2), (-1, 2)]), (0, 1))
        self.assertEqual(sum_of([(1, 2), (1, 2), (1, 2)]), (3, 2))
        self.assertEqual(sum_of(SOME), as_tuple(sum([Fraction(*one) for one in SOME], Fraction(0))))

    def test_common_bottom_of_none_and_one(self):
        self.assertEqual(common_bottom([]), 1)
        for one in SOME:
            self.assertEqual(common_bottom([one]), one[1])

    def test_common_bottom_of_many(self):
        self.assertEqual(common_bottom([(0, 1), (3, 1)]), 1)
        self.assertEqual(common_bottom([(1, 2), (1, 3)]), 6)
        self.assertEqual(common_bottom([(1, 4), (-5, 6)]), 12)
        self.assertEqual(common_bottom([(1, 6), (5, 6), (1, 3), (1, 2)]), 6)
        self.assertEqual(common_bottom([(1, 4), (1, 6), (1, 10), (1, 15)]), 60)
        self.assertEqual(common_bottom([(1, 2 * LONG), (1, 6), (1, LONG)]), 6 * LONG)

    def test_common_bottom_is_the_least(self):
        for first in range(1, 13):
            for second in range(1, 13):
                for third in range(1, 13):
                    least = 1
                    while least % first or least % second or least % third:
                        least += 1
                    self.assertEqual(common_bottom([(1, first), (1, second), (1, third)]), least)

    def test_the_list_stays_as_it_was(self):
        some = list(SOME)
        first_sum = sum_of(some)
        first_bottom = common_bottom(some)
        self.assertEqual(some, SOME)
        self.assertEqual((sum_of(some), common_bottom(some)), (first_sum, first_bottom))


if __name__ == "__main__":
    unittest.main()
