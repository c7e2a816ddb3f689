import unittest
from fractions import Fraction

from groupbooks.errors import NoNumber
from groupbooks.sharing import dealt, nearest, portion

LONG = 10 ** 299 + 7


class TestNearest(unittest.TestCase):
    def test_examples(self):
        self.assertEqual(nearest(5, 2), 3)
        self.assertEqual(nearest(-5, 2), -3)
        self.assertEqual(nearest(7, 3), 2)
        self.assertEqual(nearest(-7, 3), -2)

    def test_halves_go_away_from_nought(self):
        for whole in range(20):
            self.assertEqual(nearest(2 * whole + 1, 2), whole + 1)
            self.assertEqual(nearest(-2 * whole - 1, 2), -whole - 1)
            self.assertEqual(nearest(6 * whole + 3, 6), whole + 1)
            self.assertEqual(nearest(-6 * whole - 3, 6), -whole - 1)

    def test_nearest_of_all(self):
        for top in range(-60, 61):
            for bottom in range(1, 14):
                told = nearest(top, bottom)
                off = abs(Fraction(top, bottom) - told)
                self.assertLessEqual(off, Fraction(1, 2))
                if off == Fraction(1, 2):
                    self.assertGreater(abs(told), abs(Fraction(top, bottom)))

    def test_other_sign(self):
        for top in range(0, 60):
            for bottom in range(1, 14):
                self.assertEqual(nearest(-top, bottom), -nearest(top, bottom))

    def test_without_a_bottom(self):
        for top in (0, 1, -1, 8, -8, LONG, -LONG):
            self.assertEqual(nearest(top), top)

    def test_of_many_figures(self):
        self.assertEqual(nearest(2 * LONG + 1, 2), LONG + 1)
        self.assertEqual(nearest(-2 * LONG - 1, 2), -LONG - 1)
        self.assertEqual(nearest(3 * LONG + 1, 3), LONG)
        self.assertEqual(nearest(1, LONG), 0)

    def test_bottom_below_one_is_refused(self):
        for bottom in (0, -1, -2, -LONG):
            for top in (0, 5, -5):
                with self.assertRaises(NoNumber):
                    nearest(top, bottom)


class TestPortion(unittest.TestCase):
    def test_examples(self):
        self.assertEqual([portion(10, 3, at, at + 1) for at in range(3)], [3, 3, 4])
        self.assertEqual([portion(-10, 3, at, at + 1) for at in range(3)], [-4, -3, -3])

    def test_side_by_side_add_up(self):
        for amount in (-23, -7, -1, 0, 1, 10, 23, LONG, -LONG):
            for many in (1, 2, 5, 7):
                for start in range(many + 1):
                    for middle in range(start, many + 1):
                        for stop in range(middle, many + 1):
                            self.assertEqual(
                                portion(amount, many, start, middle) + portion(amount, many, middle, stop),
                                portion(amount, many, start, stop))

    def test_all_pieces_stand_for_the_amount(self):
        for amount in (-23, -1, 0, 1, 10, LONG, -LONG):
            for many in (1, 2, 7, 10 ** 6, LONG):
                self.assertEqual(portion(amount, many, 0, many), amount)

    def test_goes_down_below_nought(self):
        self.assertEqual(portion(-1, 2, 0, 1), -1)
        self.assertEqual(portion(-1, 2, 1, 2), 0)
        self.assertEqual(portion(1, 2, 0, 1), 0)
        self.assertEqual(portion(1, 2, 1, 2), 1)

    def test_start_is_stop(self):
        for amount in (-10, 0, 10):
            for at in range(4):
                self.assertEqual(portion(amount, 3, at, at), 0)

    def test_bounds_are_refused(self):
        wrong = [(0, 0, 0), (-1, 0, 0), (-1, -1, -1), (-3, -2, -1), (3, -1, 2), (3, -2, -1), (3, 0, 4), (3, 4, 4), (3, 2, 1), (3, 3, 0)]
        for many, start, stop in wrong:
            for amount in (-10, 0, 10):
                with self.assertRaises(NoNumber):
                    portion(amount, many, start, stop)


class TestDealt(unittest.TestCase):
    def test_examples(self):
        self.assertEqual(dealt(10, [1, 1, 1]), [3, 3, 4])
        self.assertEqual(dealt(-10, [1, 1, 1]), [-4, -3, -3])
        self.assertEqual(dealt(10, [2, 1]), [6, 4])
        self.assertEqual(dealt(10, [1, 2]), [3, 7])
        self.assertEqual(dealt(7, [5]), [7])

    def test_comes_to_the_amount_and_is_off_by_less_than_one(self):
        for amount in (-101, -10, -1, 0, 1, 10, 101, LONG, -LONG):
            for weights in ([1], [3, 4], [0, 1, 0, 2], [5, 5, 5, 5], [1, 10 ** 6, 7], [LONG, 1, LONG]):
                shares = dealt(amount, weights)
                self.assertIs(type(shares), list)
                self.assertEqual(len(shares), len(weights))
                self.assertEqual(sum(shares), amount)
                for share, weight in zip(shares, weights):
                    self.assertLess(abs(share - Fraction(amount * weight, sum(weights))), 1)

    def test_weights_of_nought(self):
        self.assertEqual(dealt(10, [0, 3, 0, 0]), [0, 10, 0, 0])
        self.assertEqual(dealt(-10, [0, 1, 0, 2, 0]), [0, -4, 0, -6, 0])

    def test_amount_of_nought(self):
        self.assertEqual(dealt(0, [1, 2, 3]), [0, 0, 0])

    def test_wrong_weights_are_refused(self):
        for weights in ([], [0], [0, 0], [-1], [3, -1], [-1, 3], [-1, 1], [0, -2, 2]):
            for amount in (-10, 0, 10):
                with self.assertRaises(NoNumber):
                    dealt(amount, weights)

    def test_list_stays_and_what_is_told_is_new(self):
        weights = [1, 2, 0]
        shares = dealt(10, weights)
        self.assertEqual(weights, [1, 2, 0])
        shares.append(5)
        self.assertEqual(weights, [1, 2, 0])
        self.assertEqual(dealt(10, weights), [3, 7, 0])


if __name__ == "__main__":
    unittest.main()
