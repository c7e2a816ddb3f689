import copy
import random
import unittest

from groupbooks.chains import chain_costs
from groupbooks.errors import BadAmount, BooksError, NoGoods, TooFew
from groupbooks.stock import Stock

LONG = 10 ** 299 + 7
FIRMS = ("a", "b", "c")


def one_lot(cost=100, many=10):
    stock = Stock()
    stock.bring(1, "a", cost, many)
    return stock


def handed_on():
    """Ten pieces of a for 100: four stay, three are b's for 60, three went on to c for 15."""
    stock = one_lot()
    stock.hand(1, "a", 6, "b", 120, 2)
    stock.hand(2, "b", 3, "c", 15, 3)
    return stock


HANDED_ON = [
    (1, 1, "a", 6, 10, [("a", 100, 0, 10)]),
    (2, 1, "b", 3, 6, [("a", 100, 0, 10), ("b", 120, 0, 6)]),
    (3, 1, "c", 0, 3, [("a", 100, 0, 10), ("b", 120, 0, 6), ("c", 15, 0, 3)]),
]


def all_told(stock):
    return (stock.holdings(), [(stock.goods_of(firm), stock.unmade(firm)) for firm in FIRMS])


class TestBring(unittest.TestCase):
    def test_without_goods(self):
        self.assertEqual(all_told(Stock()), ([], [((0, 0), 0)] * 3))

    def test_one_lot(self):
        stock = Stock()
        self.assertIsNone(stock.bring(4, "a", 100, 10))
        self.assertEqual(stock.holdings(), [(4, 4, "a", 0, 10, [("a", 100, 0, 10)])])

    def test_several_lots_of_one_firm_and_of_several(self):
        stock = Stock()
        stock.bring(1, "a", 100, 10)
        stock.bring(2, "a", 7, 3)
        stock.bring(5, "b", 100, 10)
        self.assertEqual(stock.holdings(), [
            (1, 1, "a", 0, 10, [("a", 100, 0, 10)]),
            (2, 2, "a", 0, 3, [("a", 7, 0, 3)]),
            (5, 5, "b", 0, 10, [("b", 100, 0, 10)]),
        ])
        self.assertEqual([stock.goods_of(firm) for firm in FIRMS], [(107, 0), (100, 0), (0, 0)])

    def test_of_one_piece_and_of_many(self):
        for many in (1, 2, 10 ** 6):
            self.assertEqual(one_lot(9, many).holdings(), [(1, 1, "a", 0, many, [("a", 9, 0, many)])])

    def test_for_nought_and_for_a_cost_of_many_figures(self):
        for cost in (0, 1, 10 ** 39, LONG):
            stock = one_lot(cost, 7)
            self.assertEqual(stock.holdings(), [(1, 1, "a", 0, 7, [("a", cost, 0, 7)])])
            self.assertEqual(stock.goods_of("a"), (cost, 0))

    def test_any_number_that_no_holding_had(self):
        stock = Stock()
        for number in (7, 0, -3, LONG):
            stock.bring(number, "a", 5, 2)
        self.assertEqual([row[:2] for row in stock.holdings()], [(-3, -3), (0, 0), (7, 7), (LONG, LONG)])

    def test_pieces_below_one(self):
        for many in (0, -1, -LONG):
            stock = one_lot()
            with self.assertRaises(BadAmount) as caught:
                stock.bring(2, "a", 5, many)
            self.assertEqual(caught.exception.amount, many)
            self.assertEqual(stock.holdings(), one_lot().holdings())
            stock.bring(2, "b", 5, 1)
            self.assertEqual(stock.holdings()[1], (2, 2, "b", 0, 1, [("b", 5, 0, 1)]))

    def test_a_number_that_was_asked_for(self):
        stock = Stock()
        for ask in (stock.taken, stock.sell):
            with self.assertRaises(NoGoods):
                ask(2, "a", 1)
        with self.assertRaises(NoGoods):
            stock.hand(2, "a", 1, "b", 5, 3)
        stock.bring(2, "a", 5, 1)
        stock.bring(3, "a", 5, 1)
        self.assertEqual(stock.taken(2, "a", 1), (2, 0, 1, [("a", 5, 0, 1)]))


class TestTaken(unittest.TestCase):
    def test_some_all_but_one_and_all(self):
        for many in (1, 4, 9, 10):
            self.assertEqual(one_lot().taken(1, "a", many), (1, 0, many, [("a", 100, 0, 10)]))

    def test_nothing_changes(self):
        stock = handed_on()
        for many in (3, 1, 3, 2):
            self.assertEqual(stock.taken(2, "b", many), (1, 3, 3 + many, HANDED_ON[1][5]))
            self.assertEqual(stock.holdings(), HANDED_ON)

    def test_off_the_front(self):
        stock = one_lot()
        stock.sell(1, "a", 4)
        self.assertEqual(stock.taken(1, "a", 1), (1, 4, 5, [("a", 100, 0, 10)]))
        self.assertEqual(stock.taken(1, "a", 6), (1, 4, 10, [("a", 100, 0, 10)]))

    def test_the_lot_s_number_and_not_the_holding_s(self):
        stock = handed_on()
        self.assertEqual([stock.taken(number, firm, 1)[0] for number, firm in ((1, "a"), (2, "b"), (3, "c"))], [1, 1, 1])


class TestSell(unittest.TestCase):
    def test_some_of_the_pieces(self):
        stock = one_lot()
        self.assertEqual(stock.sell(1, "a", 4), (1, 0, 4, [("a", 100, 0, 10)]))
        self.assertEqual(stock.holdings(), [(1, 1, "a", 4, 10, [("a", 100, 0, 10)])])
        self.assertEqual(stock.sell(1, "a", 1), (1, 4, 5, [("a", 100, 0, 10)]))
        self.assertEqual(stock.holdings(), [(1, 1, "a", 5, 10, [("a", 100, 0, 10)])])

    def test_all_but_one(self):
        stock = one_lot()
        self.assertEqual(stock.sell(1, "a", 9), (1, 0, 9, [("a", 100, 0, 10)]))
        self.assertEqual(stock.holdings(), [(1, 1, "a", 9, 10, [("a", 100, 0, 10)])])

    def test_all_of_them(self):
        for many in (1, 2, 10):
            stock = one_lot(100, many)
            self.assertEqual(stock.sell(1, "a", many), (1, 0, many, [("a", 100, 0, many)]))
            self.assertEqual(all_told(stock), ([], [((0, 0), 0)] * 3))

    def test_all_of_them_in_steps(self):
        stock = one_lot()
        self.assertEqual([stock.sell(1, "a", many)[1:3] for many in (3, 5, 2)], [(0, 3), (3, 8), (8, 10)])
        self.assertEqual(stock.holdings(), [])

    def test_of_a_holding_that_was_handed_on(self):
        stock = handed_on()
        self.assertEqual(stock.sell(2, "b", 2), (1, 3, 5, HANDED_ON[1][5]))
        self.assertEqual(stock.holdings(), [HANDED_ON[0], (2, 1, "b", 5, 6, HANDED_ON[1][5]), HANDED_ON[2]])
        self.assertEqual(stock.sell(2, "b", 1), (1, 5, 6, HANDED_ON[1][5]))
        self.assertEqual(stock.holdings(), [HANDED_ON[0], HANDED_ON[2]])

    def test_the_other_holdings_stay(self):
        stock = handed_on()
        stock.sell(1, "a", 4)
        self.assertEqual(stock.holdings(), HANDED_ON[1:])


class TestHand(unittest.TestCase):
    def test_some_of_the_pieces(self):
        stock = one_lot()
        self.assertEqual(stock.hand(1, "a", 4, "b", 60, 2), (1, 0, 4, [("a", 100, 0, 10)]))
        self.assertEqual(stock.holdings(), [
            (1, 1, "a", 4, 10, [("a", 100, 0, 10)]),
            (2, 1, "b", 0, 4, [("a", 100, 0, 10), ("b", 60, 0, 4)]),
        ])

    def test_all_but_one(self):
        stock = one_lot()
        self.assertEqual(stock.hand(1, "a", 9, "b", 0, 2), (1, 0, 9, [("a", 100, 0, 10)]))
        self.assertEqual(stock.holdings(), [
            (1, 1, "a", 9, 10, [("a", 100, 0, 10)]),
            (2, 1, "b", 0, 9, [("a", 100, 0, 10), ("b", 0, 0, 9)]),
        ])

    def test_all_of_them(self):
        for many in (1, 10):
            stock = one_lot(100, many)
            self.assertEqual(stock.hand(1, "a", many, "b", 60, 2), (1, 0, many, [("a", 100, 0, many)]))
            self.assertEqual(stock.holdings(), [(2, 1, "b", 0, many, [("a", 100, 0, many), ("b", 60, 0, many)])])

    def test_behind_pieces_that_were_sold(self):
        stock = one_lot()
        stock.sell(1, "a", 3)
        self.assertEqual(stock.hand(1, "a", 2, "b", 60, 2), (1, 3, 5, [("a", 100, 0, 10)]))
        self.assertEqual(stock.holdings(), [
            (1, 1, "a", 5, 10, [("a", 100, 0, 10)]),
            (2, 1, "b", 3, 5, [("a", 100, 0, 10), ("b", 60, 3, 5)]),
        ])

    def test_several_times(self):
        self.assertEqual(handed_on().holdings(), HANDED_ON)
        stock = handed_on()
        self.assertEqual(stock.hand(3, "c", 3, "a", 50, 4), (1, 0, 3, HANDED_ON[2][5]))
        self.assertEqual(stock.hand(4, "a", 1, "b", 20, 5), (1, 0, 1, HANDED_ON[2][5] + [("a", 50, 0, 3)]))
        self.assertEqual(stock.holdings(), HANDED_ON[:2] + [
            (4, 1, "a", 1, 3, HANDED_ON[2][5] + [("a", 50, 0, 3)]),
            (5, 1, "b", 0, 1, HANDED_ON[2][5] + [("a", 50, 0, 3), ("b", 20, 0, 1)]),
        ])

    def test_to_the_same_firm(self):
        stock = one_lot()
        self.assertEqual(stock.hand(1, "a", 4, "a", 60, 2), (1, 0, 4, [("a", 100, 0, 10)]))
        self.assertEqual(stock.hand(2, "a", 4, "a", 10, 3), (1, 0, 4, [("a", 100, 0, 10), ("a", 60, 0, 4)]))
        self.assertEqual(stock.holdings(), [
            (1, 1, "a", 4, 10, [("a", 100, 0, 10)]),
            (3, 1, "a", 0, 4, [("a", 100, 0, 10), ("a", 60, 0, 4), ("a", 10, 0, 4)]),
        ])
        self.assertEqual(stock.goods_of("a"), (100, -30))
        self.assertEqual(stock.unmade("a"), -30)

    def test_a_new_number_below_the_one_handed_on(self):
        stock = one_lot()
        stock.hand(1, "a", 4, "b", 60, -2)
        self.assertEqual([row[:3] for row in stock.holdings()], [(-2, 1, "b"), (1, 1, "a")])

    def test_for_a_cost_of_many_figures(self):
        stock = one_lot(0, 2)
        stock.hand(1, "a", 1, "b", LONG, 2)
        self.assertEqual([stock.goods_of(firm) for firm in FIRMS], [(0, 0), (0, LONG), (0, 0)])
        self.assertEqual([stock.unmade(firm) for firm in FIRMS], [LONG, 0, 0])


class TestRefusals(unittest.TestCase):
    """Each of the three by which pieces are taken refuses alike."""

    def asks(self, stock):
        return [
            stock.taken, stock.sell,
            lambda number, firm, many: stock.hand(number, firm, many, "b", 5, 9),
        ]

    def refused(self, stock, number, firm, many):
        """What the three refuse it with, each one just the same, and nothing changes."""
        ahead = all_told(stock)
        told = []
        for ask in self.asks(stock):
            with self.assertRaises(BooksError) as caught:
                ask(number, firm, many)
            told.append((type(caught.exception), vars(caught.exception)))
            self.assertEqual(all_told(stock), ahead)
        self.assertEqual(told, [told[0]] * 3)
        return told[0]

    def test_pieces_below_one(self):
        for many in (0, -1, -LONG):
            self.assertEqual(self.refused(handed_on(), 2, "b", many), (BadAmount, {"amount": many}))

    def test_a_number_that_never_was_there(self):
        for number in (0, 4, 9, -1, LONG):
            self.assertEqual(self.refused(handed_on(), number, "a", 1), (NoGoods, {"holding": number}))
        self.assertEqual(self.refused(Stock(), 1, "a", 1), (NoGoods, {"holding": 1}))

    def test_a_number_that_is_gone(self):
        sold = one_lot()
        sold.sell(1, "a", 10)
        self.assertEqual(self.refused(sold, 1, "a", 1), (NoGoods, {"holding": 1}))
        handed = one_lot()
        handed.hand(1, "a", 10, "b", 5, 2)
        self.assertEqual(self.refused(handed, 1, "a", 1), (NoGoods, {"holding": 1}))
        self.assertEqual(self.refused(handed, 1, "b", 1), (NoGoods, {"holding": 1}))

    def test_another_firm_s(self):
        stock = handed_on()
        for number, firm in ((1, "b"), (1, "c"), (2, "a"), (2, "c"), (3, "a"), (3, "b"), (1, "zeta")):
            self.assertEqual(self.refused(stock, number, firm, 1), (NoGoods, {"holding": number}))

    def test_too_few(self):
        stock = handed_on()
        for number, firm, there in ((1, "a", 4), (2, "b", 3), (3, "c", 3)):
            for lack in (1, 2, 7, LONG):
                refusal = (TooFew, {"holding": number, "lack": lack})
                self.assertEqual(self.refused(stock, number, firm, there + lack), refusal)

    def test_too_few_behind_pieces_that_are_gone(self):
        stock = one_lot()
        stock.sell(1, "a", 3)
        stock.hand(1, "a", 3, "b", 5, 2)
        self.assertEqual(self.refused(stock, 1, "a", 5), (TooFew, {"holding": 1, "lack": 1}))
        self.assertEqual(self.refused(stock, 1, "a", 10), (TooFew, {"holding": 1, "lack": 6}))
        self.assertEqual(self.refused(stock, 2, "b", 10), (TooFew, {"holding": 2, "lack": 7}))

    def test_the_first_one_where_several_are_due(self):
        stock = handed_on()
        self.assertEqual(self.refused(stock, 7, "a", 0), (BadAmount, {"amount": 0}))
        self.assertEqual(self.refused(stock, 1, "b", -2), (BadAmount, {"amount": -2}))
        self.assertEqual(self.refused(stock, 1, "b", 11), (NoGoods, {"holding": 1}))
        self.assertEqual(self.refused(stock, 7, "a", 11), (NoGoods, {"holding": 7}))

    def test_asked_again_behind_something_else(self):
        stock = one_lot()
        self.assertEqual(self.refused(stock, 2, "b", 4), (NoGoods, {"holding": 2}))
        stock.hand(1, "a", 3, "b", 5, 2)
        self.assertEqual(self.refused(stock, 2, "b", 4), (TooFew, {"holding": 2, "lack": 1}))
        self.assertEqual(stock.sell(2, "b", 3), (1, 0, 3, [("a", 100, 0, 10), ("b", 5, 0, 3)]))
        self.assertEqual(self.refused(stock, 2, "b", 4), (NoGoods, {"holding": 2}))

    def test_the_number_of_a_refused_hand_is_free(self):
        stock = one_lot()
        with self.assertRaises(TooFew):
            stock.hand(1, "a", 11, "b", 5, 2)
        with self.assertRaises(NoGoods):
            stock.sell(2, "b", 1)
        stock.hand(1, "a", 10, "b", 5, 2)
        self.assertEqual(stock.sell(2, "b", 1)[1:3], (0, 1))


class TestHoldings(unittest.TestCase):
    def test_by_number_whatever_the_order(self):
        stock = Stock()
        for number in (12, 3, 100, 7):
            stock.bring(number, "a", 5, 4)
        stock.hand(100, "a", 1, "b", 5, 1)
        stock.hand(3, "a", 4, "b", 5, 50)
        self.assertEqual([row[:2] for row in stock.holdings()], [(1, 100), (7, 7), (12, 12), (50, 3), (100, 100)])

    def test_behind_a_sale_in_the_midst(self):
        stock = Stock()
        for number in (2, 1, 3):
            stock.bring(number, "a", 5, 4)
        stock.sell(1, "a", 1)
        stock.sell(2, "a", 4)
        self.assertEqual([row[0] for row in stock.holdings()], [1, 3])


class TestGoods(unittest.TestCase):
    def test_of_a_firm_without_holdings(self):
        self.assertEqual(handed_on().goods_of("zeta"), (0, 0))
        self.assertEqual(Stock().goods_of("a"), (0, 0))

    def test_handed_on_for_more_and_for_less(self):
        self.assertEqual([handed_on().goods_of(firm) for firm in FIRMS], [(40, 0), (30, 30), (30, -15)])

    def test_of_several_holdings(self):
        stock = handed_on()
        stock.bring(4, "b", 11, 3)
        stock.hand(1, "a", 1, "b", 25, 5)
        self.assertEqual([stock.goods_of(firm) for firm in FIRMS], [(30, 0), (51, 45), (30, -15)])

    def test_by_the_portions_of_the_pieces_that_are_there(self):
        stock = one_lot(10, 3)
        self.assertEqual(stock.goods_of("a"), (10, 0))
        stock.sell(1, "a", 1)
        self.assertEqual(stock.goods_of("a"), (7, 0))
        stock.hand(1, "a", 2, "b", 5, 2)
        self.assertEqual([stock.goods_of("a"), stock.goods_of("b")], [(0, 0), (7, -2)])
        stock.sell(2, "b", 1)
        self.assertEqual(stock.goods_of("b"), (4, -1))


class TestUnmade(unittest.TestCase):
    def test_of_firms_that_handed_goods_on_and_of_firms_that_hold_them(self):
        self.assertEqual([handed_on().unmade(firm) for firm in FIRMS], [60, -45, 0])

    def test_none(self):
        self.assertEqual(one_lot().unmade("a"), 0)
        self.assertEqual(handed_on().unmade("zeta"), 0)

    def test_made_where_the_goods_are_sold(self):
        stock = handed_on()
        stock.sell(3, "c", 3)
        self.assertEqual([stock.unmade(firm) for firm in FIRMS], [30, 0, 0])
        stock.sell(2, "b", 3)
        self.assertEqual([stock.unmade(firm) for firm in FIRMS], [0, 0, 0])

    def test_over_several_holdings_and_twice_in_a_chain(self):
        stock = handed_on()
        stock.hand(3, "c", 3, "a", 50, 4)
        stock.hand(4, "a", 3, "b", 41, 5)
        stock.bring(6, "a", 1, 1)
        stock.hand(6, "a", 1, "c", 3, 7)
        self.assertEqual([stock.unmade(firm) for firm in FIRMS], [60 - 9 + 2, -45, 35])
        self.assertEqual([stock.goods_of(firm) for firm in FIRMS], [(40, 0), (60, 30 + 11), (1, 2)])


class Pieces:
    """The same goods told piece by piece: of each piece its lot, its holding, its firm and what it cost."""

    def __init__(self):
        self.pieces = []

    def bring(self, number, firm, cost, many):
        for at in range(many):
            paid = cost * (at + 1) // many - cost * at // many
            self.pieces.append({"lot": number, "at": at, "holding": number, "paid": [(firm, paid)]})

    def front(self, number, many):
        return [piece for piece in self.pieces if piece["holding"] == number][:many]

    def sell(self, number, many):
        gone = self.front(number, many)
        self.pieces = [piece for piece in self.pieces if piece not in gone]

    def hand(self, number, many, sister, cost, new):
        for at, piece in enumerate(self.front(number, many)):
            piece["holding"] = new
            piece["paid"].append((sister, cost * (at + 1) // many - cost * at // many))

    def spans(self):
        told = {}
        for piece in self.pieces:
            told.setdefault((piece["holding"], piece["lot"], piece["paid"][-1][0]), []).append(piece["at"])
        return sorted(key + (min(ats), max(ats) + 1) for key, ats in told.items())

    def goods_of(self, firm):
        mine = [piece["paid"] for piece in self.pieces if piece["paid"][-1][0] == firm]
        return (sum(paid[0][1] for paid in mine), sum(paid[-1][1] - paid[0][1] for paid in mine))

    def unmade(self, firm):
        steps = [step for piece in self.pieces for step in zip(piece["paid"], piece["paid"][1:])]
        return sum(two[1] - one[1] for one, two in steps if one[0] == firm)


def some_step(source, stock, pieces, number):
    """Something that is not refused is done to both; what comes of it bears the new number."""
    rows = stock.holdings()
    if rows == [] or source.random() < 0.2:
        told = (number, source.choice(FIRMS), source.choice([0, 5, source.randint(0, 10 ** 12)]), source.randint(1, 9))
        stock.bring(*told)
        pieces.bring(*told)
        return
    held, lot, firm, start, stop, layers = source.choice(rows)
    many = source.choice([1, stop - start, source.randint(1, stop - start)])
    if source.random() < 0.4:
        stock.sell(held, firm, many)
        pieces.sell(held, many)
    else:
        sister, cost = source.choice(FIRMS), source.choice([0, 5, source.randint(0, 10 ** 12)])
        stock.hand(held, firm, many, sister, cost, number)
        pieces.hand(held, many, sister, cost, number)


class TestInAnySteps(unittest.TestCase):
    def test_as_piece_by_piece(self):
        source = random.Random(42)
        for turn in range(40):
            stock, pieces = Stock(), Pieces()
            for number in range(1, 41):
                some_step(source, stock, pieces, number)
                self.assertEqual([row[:5] for row in stock.holdings()], pieces.spans())
                for firm in FIRMS:
                    self.assertEqual(stock.goods_of(firm), pieces.goods_of(firm))
                    self.assertEqual(stock.unmade(firm), pieces.unmade(firm))

    def test_the_unmade_gains_come_to_the_second_sums(self):
        source = random.Random(43)
        for turn in range(40):
            stock, pieces = Stock(), Pieces()
            for number in range(1, 31):
                some_step(source, stock, pieces, number)
                gains = sum(stock.unmade(firm) for firm in FIRMS)
                self.assertEqual(gains, sum(stock.goods_of(firm)[1] for firm in FIRMS))

    def test_the_costs_of_a_lot_s_pieces_come_to_the_lot_s_cost(self):
        source = random.Random(44)
        for turn in range(100):
            many, cost = source.randint(1, 30), source.randint(0, 100)
            stock = one_lot(cost, many)
            sold = 0
            for number in range(2, 40):
                if stock.holdings() == []:
                    break
                held, lot, firm, start, stop, layers = source.choice(stock.holdings())
                some = source.randint(1, stop - start)
                if source.random() < 0.5:
                    gone = stock.sell(held, firm, some)
                    sold += chain_costs(gone[3], gone[1], gone[2])[0]
                else:
                    stock.hand(held, firm, some, source.choice(FIRMS), source.randint(0, 100), number)
                self.assertEqual(sold + sum(stock.goods_of(firm)[0] for firm in FIRMS), cost)

    def test_the_costs_of_pieces_that_were_handed_on_come_to_what_was_paid(self):
        for steps in ([7], [1] * 7, [2, 3, 2], [6, 1], [1, 6]):
            stock = one_lot(100, 10)
            stock.sell(1, "a", 2)
            stock.hand(1, "a", 7, "b", 45, 2)
            gone = [stock.sell(2, "b", many) for many in steps]
            costs = [chain_costs(layers, start, stop) for lot, start, stop, layers in gone]
            self.assertEqual([sum(some) for some in zip(*costs)], [70, 45])


class TestCopied(unittest.TestCase):
    def test_the_same_goods(self):
        twin = handed_on().copied()
        self.assertIsInstance(twin, Stock)
        self.assertEqual(all_told(twin), all_told(handed_on()))
        self.assertEqual(Stock().copied().holdings(), [])

    def test_what_is_done_to_one_of_both_is_not_done_to_the_other(self):
        for first in (True, False):
            stock = handed_on()
            twin = stock.copied()
            one, other = (stock, twin) if first else (twin, stock)
            one.bring(8, "c", 5, 2)
            one.sell(1, "a", 1)
            one.sell(2, "b", 3)
            one.hand(3, "c", 2, "a", 77, 9)
            self.assertEqual(all_told(other), all_told(handed_on()))
            other.hand(1, "a", 4, "b", 3, 8)
            self.assertEqual([row[:5] for row in one.holdings()], [
                (1, 1, "a", 7, 10), (3, 1, "c", 2, 3), (8, 8, "c", 0, 2), (9, 1, "a", 0, 2),
            ])
            self.assertEqual([row[:5] for row in other.holdings()], [
                (2, 1, "b", 3, 6), (3, 1, "c", 0, 3), (8, 1, "b", 6, 10),
            ])

    def test_a_copy_of_a_copy(self):
        stock = handed_on()
        twin = stock.copied()
        third = twin.copied()
        third.sell(1, "a", 4)
        self.assertEqual((stock.holdings(), twin.holdings()), (HANDED_ON, HANDED_ON))
        self.assertEqual(third.holdings(), HANDED_ON[1:])

    def test_stocks_that_are_no_copies(self):
        one, other = Stock(), Stock()
        one.bring(1, "a", 5, 2)
        self.assertEqual(other.holdings(), [])


class TestTold(unittest.TestCase):
    def test_what_is_done_to_what_was_told_changes_nothing(self):
        stock = handed_on()
        told = [stock.taken(2, "b", 1)[3], stock.sell(2, "b", 1)[3], stock.hand(2, "b", 1, "a", 5, 4)[3]]
        ahead = all_told(stock.copied())
        for layers in told:
            layers.append(("z", 1, 0, 1))
            layers[0] = ("z", 1, 0, 1)
        rows = stock.holdings()
        for row in rows:
            row[5].clear()
        rows.clear()
        self.assertEqual(all_told(stock), ahead)

    def test_what_is_done_to_what_a_copy_told_changes_neither(self):
        stock = handed_on()
        twin = stock.copied()
        for row in twin.holdings():
            row[5].pop()
        twin.taken(2, "b", 1)[3].pop()
        self.assertEqual((stock.holdings(), twin.holdings()), (HANDED_ON, HANDED_ON))

    def test_what_was_told_stays(self):
        stock = handed_on()
        told = [stock.holdings(), stock.taken(3, "c", 2), stock.sell(3, "c", 1), stock.hand(3, "c", 2, "a", 9, 4)]
        ahead = copy.deepcopy(told)
        stock.hand(4, "a", 2, "b", 1, 5)
        stock.sell(5, "b", 2)
        stock.sell(1, "a", 4)
        stock.bring(6, "a", 5, 2)
        self.assertEqual(told, ahead)

    def test_kinds(self):
        stock = handed_on()
        self.assertIsInstance(stock.taken(2, "b", 1), tuple)
        self.assertIsInstance(stock.taken(2, "b", 1)[3], list)
        self.assertIsInstance(stock.holdings()[2], tuple)
        self.assertIsInstance(stock.goods_of("b"), tuple)

    def test_the_names_of_the_interface(self):
        stock = Stock()
        stock.bring(number=1, firm="a", cost=100, many=10)
        stock.taken(number=1, firm="a", many=1)
        stock.hand(number=1, firm="a", many=6, sister="b", cost=120, new=2)
        stock.sell(number=1, firm="a", many=4)
        self.assertEqual((stock.goods_of(firm="b"), stock.unmade(firm="a")), ((60, 60), 60))


if __name__ == "__main__":
    unittest.main()
