import unittest

from groupbooks.errors import BadAmount, BooksError, NoFirm, NoRate, Ringed, Unheld
from groupbooks.ground import Ground
from groupbooks.rates import Rates

FIRMS = ["a", "b"]
ROWS = [("x", "a", 3), ("b", "a", 1), ("a", "b", 9), ("x", "b", 1)]
CHART = {"cash": "have", "loan": "owe", "stock": "own", "rent": "result"}


def some_rates():
    rates = Rates("eur")
    rates.tell("usd", 0, 1, 2)
    return rates


def told_by(ground):
    return (ground.firms, ground.rows, ground.chart, ground.rates.told, ground.rates.rate("usd", 40))


def refusal_of(firms, rows):
    try:
        Ground(firms, some_rates(), rows, CHART)
    except BooksError as refusal:
        return (type(refusal), vars(refusal))
    return None


class TestValues(unittest.TestCase):
    def test_by_name(self):
        ground = Ground(FIRMS, some_rates(), ROWS, CHART)
        self.assertEqual(told_by(ground), (FIRMS, ROWS, CHART, "eur", (1, 2)))
        self.assertIsInstance(ground.firms, list)
        self.assertIsInstance(ground.rates, Rates)
        self.assertIsInstance(ground.rows, list)
        self.assertIsInstance(ground.chart, dict)

    def test_by_the_names_of_the_interface(self):
        ground = Ground(firms=FIRMS, rates=some_rates(), rows=ROWS, chart=CHART)
        self.assertEqual(told_by(ground), (FIRMS, ROWS, CHART, "eur", (1, 2)))

    def test_in_the_order_told(self):
        rows = [("x", "b", 1), ("x", "c", 2), ("y", "a", 1), ("x", "a", 3), ("x", "a", 3)]
        ground = Ground(["c", "a", "b"], Rates(), rows, {})
        self.assertEqual((ground.firms, ground.rows), (["c", "a", "b"], rows))

    def test_without_firms_and_without_accounts(self):
        ground = Ground([], Rates(), [], {})
        self.assertEqual((ground.firms, ground.rows, ground.chart, ground.rates.told), ([], [], {}, "one"))


class TestCopies(unittest.TestCase):
    def test_what_is_handed_in_stays(self):
        firms, rates, rows, chart = list(FIRMS), some_rates(), list(ROWS), dict(CHART)
        Ground(firms, rates, rows, chart)
        self.assertEqual((firms, rows, chart, rates.rate("usd", 40)), (FIRMS, ROWS, CHART, (1, 2)))

    def test_what_is_done_behind_changes_nothing(self):
        firms, rates, rows, chart = list(FIRMS), some_rates(), list(ROWS), dict(CHART)
        ground = Ground(firms, rates, rows, chart)
        firms.append("c")
        firms[0] = "z"
        rows.clear()
        chart["cash"] = "owe"
        chart["bank"] = "have"
        rates.tell("usd", 10, 5)
        rates.tell("yen", 0, 5)
        self.assertEqual(told_by(ground), (FIRMS, ROWS, CHART, "eur", (1, 2)))
        with self.assertRaises(NoRate):
            ground.rates.rate("yen", 40)

    def test_two_grounds_of_the_same(self):
        firms, rates, rows, chart = list(FIRMS), some_rates(), list(ROWS), dict(CHART)
        one, other = Ground(firms, rates, rows, chart), Ground(firms, rates, rows, chart)
        one.firms.clear()
        one.rows.clear()
        one.chart.clear()
        one.rates.tell("usd", 10, 5)
        self.assertEqual(told_by(other), (FIRMS, ROWS, CHART, "eur", (1, 2)))
        self.assertEqual((firms, rows, chart, rates.rate("usd", 40)), (FIRMS, ROWS, CHART, (1, 2)))


class TestRefusals(unittest.TestCase):
    def test_a_row_of_a_firm_that_is_none(self):
        rows = ROWS + [("x", "zeta", 1), ("x", "yota", 1)]
        self.assertEqual(refusal_of(FIRMS, rows), (NoFirm, {"name": "zeta"}))
        self.assertEqual(refusal_of([], ROWS), (NoFirm, {"name": "a"}))

    def test_shares_below_one(self):
        for shares in (0, -1, -10 ** 6):
            rows = ROWS + [("x", "b", shares), ("y", "a", -7)]
            self.assertEqual(refusal_of(FIRMS, rows), (BadAmount, {"amount": shares}))

    def test_a_firm_without_a_row(self):
        self.assertEqual(refusal_of(["a", "d", "b", "c"], ROWS), (Unheld, {"firm": "d"}))
        self.assertEqual(refusal_of(["a"], []), (Unheld, {"firm": "a"}))

    def test_a_ring(self):
        rows = [("c", "b", 1), ("b", "c", 1), ("x", "a", 1), ("a", "d", 1)]
        self.assertEqual(refusal_of(["d", "c", "b", "a"], rows), (Ringed, {"ring": ["b", "c"]}))
        self.assertEqual(refusal_of(["a"], [("a", "a", 5)]), (Ringed, {"ring": ["a"]}))

    def test_in_this_order(self):
        firms = ["a", "b", "c"]
        ring = [("a", "a", 1)]
        unheld = ring + [("a", "b", 1)]
        low = unheld + [("x", "b", 0)]
        strange = low + [("x", "zeta", 1)]
        self.assertEqual(refusal_of(firms, strange), (NoFirm, {"name": "zeta"}))
        self.assertEqual(refusal_of(firms, low), (BadAmount, {"amount": 0}))
        self.assertEqual(refusal_of(firms, unheld), (Unheld, {"firm": "c"}))
        self.assertEqual(refusal_of(firms[:2], unheld), (Ringed, {"ring": ["a", "b"]}))
        self.assertIsNone(refusal_of(firms[:2], unheld + [("x", "a", 1)]))

    def test_refused_nothing_changes_and_it_may_be_made_again(self):
        firms, rates, rows, chart = list(FIRMS), some_rates(), [("a", "b", 1), ("b", "a", 1)], dict(CHART)
        with self.assertRaises(Ringed):
            Ground(firms, rates, rows, chart)
        self.assertEqual((firms, rows, chart), (FIRMS, [("a", "b", 1), ("b", "a", 1)], CHART))
        rows.append(("x", "a", 1))
        self.assertEqual(Ground(firms, rates, rows, chart).rows, rows)


if __name__ == "__main__":
    unittest.main()
