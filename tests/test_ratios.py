import math
import unittest
from fractions import Fraction

from groupbooks.errors import NoNumber
from groupbooks.ratios import divisor, fraction, minus, over, plus, sum_of, times, under

LONG = 7 ** 354  # three hundred figures
SOME = [(0, 1), (1, 1), (-1, 1), (1, 2), (-1, 2), (2, 3), (-5, 6), (7, 4), (12, 35), (-9, 10), (LONG, 10 ** 299 + 1)]


def pair(number):
    return (number.numerator, number.denominator)


def exact(one):
    return Fraction(one[0], one[1])


class TestDivisor(unittest.TestCase):
    def test_of_either_sign(self):
        for one in range(-30, 31):
            for other in range(-30, 31):
                self.assertEqual(divisor(one, other), math.gcd(one, other), (one, other))

    def test_of_nought(self):
        self.assertEqual(divisor(0, 0), 0)
        self.assertEqual(divisor(0, 12), 12)
        self.assertEqual(divisor(12, 0), 12)
        self.assertEqual(divisor(0, -12), 12)
        self.assertEqual(divisor(-12, 0), 12)

    def test_examples(self):
        self.assertEqual(divisor(12, 18), 6)
        self.assertEqual(divisor(-12, 18), 6)
        self.assertEqual(divisor(12, -18), 6)
        self.assertEqual(divisor(-12, -18), 6)
        self.assertEqual(divisor(-1, 5), 1)

    def test_of_many_figures(self):
        self.assertEqual(divisor(LONG, -(7 ** 100) * 3), 7 ** 100)
        self.assertEqual(divisor(-LONG, 10 ** 299), 1)


class TestFraction(unittest.TestCase):
    def assert_fraction(self, told, number):
        self.assertIs(type(told), tuple)
        self.assertEqual([type(part) for part in told], [int, int])
        self.assertEqual(told, pair(number))

    def test_lowest_terms_of_either_sign(self):
        for top in range(-24, 25):
            for bottom in list(range(-24, 0)) + list(range(1, 25)):
                self.assert_fraction(fraction(top, bottom), Fraction(top, bottom))

    def test_examples(self):
        self.assertEqual(fraction(6, 4), (3, 2))
        self.assertEqual(fraction(6, -4), (-3, 2))
        self.assertEqual(fraction(-6, -4), (3, 2))
        self.assertEqual(fraction(-6, 3), (-2, 1))

    def test_nought(self):
        for bottom in (1, -1, 7, -7, LONG):
            self.assertEqual(fraction(0, bottom), (0, 1))

    def test_of_many_figures(self):
        self.assertEqual(fraction(LONG * 6, -LONG * 4), (-3, 2))
        self.assertEqual(fraction(-LONG, 7), (-(7 ** 353), 1))
        self.assertEqual(fraction(7, -LONG), (-1, 7 ** 353))

    def test_of_one_number_alone(self):
        for top in (0, 1, -1, 5, -5, LONG):
            self.assertEqual(fraction(top), (top, 1))

    def test_bottom_of_nought_is_refused(self):
        for top in (0, 1, -1, LONG):
            with self.assertRaises(NoNumber):
                fraction(top, 0)

    def test_plus_minus_times(self):
        for one in SOME:
            for other in SOME:
                self.assert_fraction(plus(one, other), exact(one) + exact(other))
                self.assert_fraction(minus(one, other), exact(one) - exact(other))
                self.assert_fraction(times(one, other), exact(one) * exact(other))

    def test_over(self):
        for one in SOME:
            for other in SOME:
                if other[0] != 0:
                    self.assert_fraction(over(one, other), exact(one) / exact(other))
        self.assertEqual(over((1, 2), (-3, 4)), (-2, 3))
        self.assertEqual(over((0, 1), (-3, 4)), (0, 1))

    def test_over_nought_is_refused(self):
        for one in SOME:
            with self.assertRaises(NoNumber):
                over(one, (0, 1))

    def test_reckoning_examples(self):
        self.assertEqual(plus((1, 6), (1, 3)), (1, 2))
        self.assertEqual(plus((1, 2), (-1, 2)), (0, 1))
        self.assertEqual(minus((1, 6), (2, 3)), (-1, 2))
        self.assertEqual(minus((2, 3), (2, 3)), (0, 1))
        self.assertEqual(times((2, 3), (-3, 2)), (-1, 1))
        self.assertEqual(times((0, 1), (-3, 2)), (0, 1))


class TestUnder(unittest.TestCase):
    def test_both_ways(self):
        self.assertIs(under((1, 3), (1, 2)), True)
        self.assertIs(under((1, 2), (1, 3)), False)
        self.assertIs(under((-1, 2), (-1, 3)), True)
        self.assertIs(under((-1, 3), (-1, 2)), False)

    def test_equal_is_not_less(self):
        for one in SOME:
            self.assertIs(under(one, one), False)

    def test_all_pairs(self):
        for one in SOME:
            for other in SOME:
                self.assertIs(under(one, other), exact(one) < exact(other))


class TestSumOf(unittest.TestCase):
    def test_of_none_and_of_one(self):
        self.assertEqual(sum_of([]), (0, 1))
        self.assertEqual(sum_of([(-5, 6)]), (-5, 6))

    def test_of_several(self):
        self.assertEqual(sum_of([(1, 2), (1, 3), (1, 6)]), (1, 1))
        self.assertEqual(sum_of([(1, 2), (-1, 3), (-1, 6)]), (0, 1))
        self.assertEqual(sum_of(SOME), pair(sum([exact(one) for one in SOME], Fraction(0))))

    def test_list_stays(self):
        some = list(SOME)
        sum_of(some)
        self.assertEqual(some, SOME)

    def test_many_long_ones(self):
        # As many things of as many figures as may be handed in.
        some = [fraction(LONG - place, 10 ** 299 + place) for place in range(300)]
        total = sum_of(some)
        top, bottom = 0, 1
        for one in some:
            top, bottom = top * one[1] + one[0] * bottom, bottom * one[1]
        self.assertEqual(math.gcd(total[0], total[1]), 1)
        self.assertEqual(total[0] * bottom, top * total[1])


if __name__ == "__main__":
    unittest.main()
