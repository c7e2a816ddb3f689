import unittest
from itertools import permutations

from groupbooks.errors import NoNumber, NoRate, Twice
from groupbooks.rates import Rates

TOLD = [("usd", 3, 1, 2), ("usd", 10, 2, 3), ("usd", 30, 5, 1), ("eur", 10, 7, 4)]


def told_all(rows, told="one"):
    rates = Rates(told)
    for coin, day, top, bottom in rows:
        rates.tell(coin, day, top, bottom)
    return rates


class RatesTest(unittest.TestCase):
    def assert_no_rate(self, ask, coin, day):
        with self.assertRaises(NoRate) as taken:
            ask()
        self.assertEqual((taken.exception.coin, taken.exception.day), (coin, day))

    def assert_twice(self, ask, coin, day):
        with self.assertRaises(Twice) as taken:
            ask()
        self.assertEqual((taken.exception.coin, taken.exception.day), (coin, day))


class TestTell(RatesTest):
    def test_told_coin(self):
        self.assertEqual(Rates().told, "one")
        self.assertEqual(Rates("usd").told, "usd")
        for day in (0, 1, 30, 9999):
            self.assertEqual(Rates().rate("one", day), (1, 1))
            self.assertEqual(Rates("usd").rate("usd", day), (1, 1))

    def test_one_is_a_coin_like_others_where_another_is_told(self):
        rates = Rates("usd")
        self.assert_no_rate(lambda: rates.rate("one", 5), "one", 5)
        rates.tell("one", 5, 3, 2)
        self.assertEqual(rates.rate("one", 5), (3, 2))

    def test_tell_tells_none(self):
        self.assertIsNone(Rates().tell("usd", 0, 1, 2))

    def test_without_a_bottom(self):
        rates = Rates()
        rates.tell("usd", 0, 6)
        self.assertEqual(rates.rate("usd", 0), (6, 1))

    def test_rate_is_in_lowest_terms(self):
        rates = Rates()
        rates.tell("usd", 0, 6, 4)
        rates.tell("eur", 0, 10 ** 9, 10 ** 8)
        self.assertEqual(rates.rate("usd", 0), (3, 2))
        self.assertEqual(rates.rate("eur", 0), (10, 1))
        self.assertIs(type(rates.rate("usd", 0)), tuple)

    def test_latest_day_not_behind_in_any_order(self):
        expected = {3: (1, 2), 4: (1, 2), 9: (1, 2), 10: (2, 3), 11: (2, 3), 29: (2, 3), 30: (5, 1), 9999: (5, 1)}
        for rows in permutations(TOLD):
            rates = told_all(rows)
            for day, rate in expected.items():
                self.assertEqual(rates.rate("usd", day), rate, day)
            self.assertEqual(rates.rate("eur", 10), (7, 4))
            self.assertEqual(rates.rate("eur", 40), (7, 4))
            self.assert_no_rate(lambda: rates.rate("usd", 2), "usd", 2)
            self.assert_no_rate(lambda: rates.rate("eur", 9), "eur", 9)

    def test_rate_from_day_nought(self):
        rates = Rates()
        rates.tell("usd", 0, 2)
        self.assertEqual(rates.rate("usd", 0), (2, 1))

    def test_no_rate_of_an_untold_coin(self):
        self.assert_no_rate(lambda: told_all(TOLD).rate("yen", 50), "yen", 50)
        self.assert_no_rate(lambda: Rates().rate("usd", 0), "usd", 0)

    def test_asked_again_behind_a_refusal(self):
        rates = Rates()
        self.assert_no_rate(lambda: rates.rate("usd", 4), "usd", 4)
        rates.tell("usd", 4, 1, 3)
        self.assertEqual(rates.rate("usd", 4), (1, 3))
        self.assert_no_rate(lambda: rates.rate("usd", 3), "usd", 3)

    def test_tops_and_bottoms_below_one_are_refused(self):
        rates = Rates()
        for top, bottom in ((0, 1), (-1, 1), (1, 0), (1, -1), (0, 0), (-1, -1), (-4, -2)):
            with self.assertRaises(NoNumber):
                rates.tell("usd", 0, top, bottom)
        with self.assertRaises(NoNumber):
            rates.tell("usd", 0, 0)
        self.assert_no_rate(lambda: rates.rate("usd", 9999), "usd", 9999)
        rates.tell("usd", 0, 1, 1)
        self.assertEqual(rates.rate("usd", 0), (1, 1))

    def test_none_for_the_told_coin(self):
        rates = Rates()
        self.assert_twice(lambda: rates.tell("one", 4, 1, 1), "one", 4)
        self.assert_twice(lambda: rates.tell("one", 5, 2, 1), "one", 5)
        self.assertEqual(rates.rate("one", 9), (1, 1))
        other = Rates("usd")
        self.assert_twice(lambda: other.tell("usd", 0, 1), "usd", 0)

    def test_one_for_a_coin_and_a_day(self):
        rates = told_all(TOLD)
        self.assert_twice(lambda: rates.tell("usd", 10, 9, 1), "usd", 10)
        self.assert_twice(lambda: rates.tell("usd", 10, 2, 3), "usd", 10)
        self.assertEqual(rates.rate("usd", 10), (2, 3))
        rates.tell("usd", 11, 9, 1)
        rates.tell("eur", 3, 8, 1)
        self.assertEqual(rates.rate("usd", 11), (9, 1))
        self.assertEqual(rates.rate("eur", 9), (8, 1))

    def test_no_number_ahead_of_twice(self):
        rates = told_all(TOLD)
        for coin, day in (("one", 0), ("usd", 10)):
            for top, bottom in ((0, 1), (1, 0), (-1, 1), (1, -1)):
                with self.assertRaises(NoNumber):
                    rates.tell(coin, day, top, bottom)
        self.assertEqual(rates.rate("usd", 10), (2, 3))

    def test_objects_keep_their_own(self):
        told_all(TOLD)
        self.assert_no_rate(lambda: Rates().rate("usd", 30), "usd", 30)


class TestWorth(RatesTest):
    def test_halves_of_either_sign(self):
        rates = told_all(TOLD)
        told = [rates.worth(amount, "usd", 3) for amount in (-3, -2, -1, 0, 1, 2, 3)]
        self.assertEqual(told, [-2, -1, -1, 0, 1, 1, 2])

    def test_nearest_to_amount_times_rate(self):
        rates = told_all(TOLD)
        told = [rates.worth(amount, "usd", 12) for amount in (-2, -1, 1, 2, 3, 4)]
        self.assertEqual(told, [-1, -1, 1, 1, 2, 3])
        self.assertEqual(rates.worth(10 ** 30, "eur", 10), 7 * 10 ** 30 // 4)
        self.assertEqual(rates.worth(3, "usd", 31), 15)

    def test_other_sign(self):
        rates = told_all(TOLD)
        for amount in range(40):
            for coin, day in (("usd", 3), ("usd", 10), ("eur", 10), ("one", 0)):
                self.assertEqual(rates.worth(-amount, coin, day), -rates.worth(amount, coin, day))

    def test_told_coin(self):
        for rates, coin in ((Rates(), "one"), (Rates("usd"), "usd")):
            for amount in (-7, 0, 1, 10 ** 40):
                self.assertEqual(rates.worth(amount, coin, 0), amount)

    def test_no_rate_of_any_amount(self):
        rates = told_all(TOLD)
        for amount in (-1, 0, 1):
            self.assert_no_rate(lambda: rates.worth(amount, "usd", 2), "usd", 2)
            self.assert_no_rate(lambda: rates.worth(amount, "yen", 2), "yen", 2)

    def test_amount_of_nought(self):
        self.assertEqual(told_all(TOLD).worth(0, "usd", 3), 0)


class TestCopied(RatesTest):
    def test_same_told_coin_and_rates(self):
        for told in ("one", "yen"):
            twin = told_all(TOLD, told).copied()
            self.assertIsInstance(twin, Rates)
            self.assertEqual(twin.told, told)
            self.assertEqual(twin.rate(told, 0), (1, 1))
            self.assertEqual(twin.rate("usd", 29), (2, 3))
            self.assert_twice(lambda: twin.tell("usd", 10, 1), "usd", 10)

    def test_told_to_the_first_alone(self):
        rates = told_all(TOLD)
        twin = rates.copied()
        rates.tell("usd", 20, 9)
        rates.tell("yen", 20, 9)
        self.assertEqual(twin.rate("usd", 20), (2, 3))
        self.assert_no_rate(lambda: twin.rate("yen", 20), "yen", 20)
        twin.tell("usd", 20, 8)
        self.assertEqual(rates.rate("usd", 20), (9, 1))

    def test_told_to_the_copy_alone(self):
        rates = told_all(TOLD)
        twin = rates.copied()
        twin.tell("usd", 20, 9)
        twin.tell("yen", 20, 9)
        self.assertEqual(rates.rate("usd", 20), (2, 3))
        self.assert_no_rate(lambda: rates.rate("yen", 20), "yen", 20)
        rates.tell("usd", 20, 8)
        self.assertEqual(twin.rate("usd", 20), (9, 1))

    def test_copy_of_a_copy_and_of_nothing(self):
        rates = Rates()
        twin = rates.copied().copied()
        twin.tell("usd", 0, 1)
        self.assert_no_rate(lambda: rates.rate("usd", 0), "usd", 0)


if __name__ == "__main__":
    unittest.main()
