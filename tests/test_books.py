import random
import unittest

from groupbooks.books import Book, figures_of, month_of
from groupbooks.errors import BooksError, NoFirm, Unbalanced
from groupbooks.halves import entry_lines
from groupbooks.rates import Rates


def pair(amount, firm="a", one="cash", other="rent", coin="one"):
    """Two lines that come to 0 in amount and in worth."""
    return [(firm, one, coin, amount, amount), (firm, other, coin, -amount, -amount)]


class Choosy(Book):
    """Another kind of book, which refuses odd days and keeps what it was asked."""

    def __init__(self, firm):
        Book.__init__(self, firm)
        self.asked = []

    def may_enter(self, day):
        self.asked.append(day)
        if day % 2 == 1:
            raise KeyError(day)


class BooksTest(unittest.TestCase):
    def assert_no_firm(self, ask, name):
        with self.assertRaises(NoFirm) as taken:
            ask()
        self.assertEqual(taken.exception.name, name)

    def assert_unbalanced(self, ask, book, coin, rest):
        with self.assertRaises(Unbalanced) as taken:
            ask()
        refusal = taken.exception
        self.assertEqual((refusal.book, refusal.coin, refusal.rest), (book, coin, rest))


class TestMonthOf(BooksTest):
    def test_edges(self):
        self.assertEqual([month_of(day) for day in (0, 1, 29, 30, 31, 59, 60, 89, 90)], [0, 0, 0, 1, 1, 1, 2, 2, 3])
        self.assertEqual(month_of(9999), 333)
        self.assertIs(type(month_of(31)), int)

    def test_thirty_days_each(self):
        for month in range(20):
            self.assertEqual([day for day in range(700) if month_of(day) == month], list(range(30 * month, 30 * month + 30)))


class TestFiguresOf(BooksTest):
    def test_sums_over_firms(self):
        lines = [("a", "cash", "usd", 4, 2), ("b", "cash", "usd", 6, 3), ("a", "cash", "usd", -1, -1), ("c", "rent", "usd", 1, 9)]
        self.assertEqual(figures_of(lines), [("cash", "usd", 9, 4), ("rent", "usd", 1, 9)])

    def test_sorted_by_account_and_then_coin(self):
        places = [
            ("rent", "usd"), (".due.b", "one"), ("cash", "one"), ("*rounding", "one"), ("rent", "eur"), (".due.a", "usd"),
            ("cas", "zzz"), ("*bridge", "usd"), (".due.a", "eur"), (".bridge", "one"), ("cash", "a"), ("cashb", "a"),
        ]
        ordered = [
            ("*bridge", "usd"), ("*rounding", "one"), (".bridge", "one"), (".due.a", "eur"), (".due.a", "usd"),
            (".due.b", "one"), ("cas", "zzz"), ("cash", "a"), ("cash", "one"), ("cashb", "a"), ("rent", "eur"), ("rent", "usd"),
        ]
        source = random.Random(3)
        for turn in range(20):
            source.shuffle(places)
            # The sums fall, so that an order by them would show.
            lines = [("a", account, coin, -ord(account[-1]), 5) for account, coin in places]
            self.assertEqual([row[:2] for row in figures_of(lines)], ordered)

    def test_account_and_coin_are_not_run_into_one(self):
        lines = [("a", "ab", "c", 1, 1), ("a", "a", "bc", 2, 2)]
        self.assertEqual(figures_of(lines), [("a", "bc", 2, 2), ("ab", "c", 1, 1)])

    def test_both_sums_nought_are_left_out(self):
        lines = pair(5) + [("a", "cash", "one", -5, -5), ("b", "stock", "one", 0, 0)]
        self.assertEqual(figures_of(lines), [("rent", "one", -5, -5)])

    def test_one_sum_of_nought_is_not_left_out(self):
        lines = [("a", "*rounding", "one", 0, -1), ("a", "cash", "usd", 1, 0), ("b", "rent", "usd", 3, 2), ("a", "rent", "usd", -3, -1)]
        self.assertEqual(figures_of(lines), [("*rounding", "one", 0, -1), ("cash", "usd", 1, 0), ("rent", "usd", 0, 1)])

    def test_sums_that_weigh_one_another_up_stay(self):
        self.assertEqual(figures_of([("a", "cash", "usd", 5, -5)]), [("cash", "usd", 5, -5)])

    def test_no_lines(self):
        self.assertEqual(figures_of([]), [])

    def test_kinds_and_lists(self):
        lines = pair(3)
        handed = list(lines)
        told = figures_of(handed)
        self.assertIs(type(told), list)
        self.assertIs(type(told[0]), tuple)
        self.assertEqual(handed, lines)
        handed.clear()
        self.assertEqual(told, [("cash", "one", 3, 3), ("rent", "one", -3, -3)])
        told.clear()
        self.assertEqual(len(figures_of(lines)), 2)

    def test_of_many_figures(self):
        long = 10 ** 299
        self.assertEqual(figures_of([("a", "cash", "usd", long, -long)] * 3), [("cash", "usd", 3 * long, -3 * long)])


class TestPost(BooksTest):
    def test_book_has_its_firm_s_name(self):
        self.assertEqual(Book("zeta").book, "zeta")

    def test_new_book_is_empty(self):
        book = Book("a")
        for told in (book.entries(), book.spots(), book.lines_upto(), book.figures(), book.spots(0), book.lines_upto(0), book.figures(0)):
            self.assertEqual(told, [])

    def test_numbers_from_nought_on(self):
        book = Book("a")
        self.assertEqual([book.post(day, 7, pair(day)) for day in (5, 3, 90, 0)], [0, 1, 2, 3])

    def test_entries_in_the_order_in_which_they_were_entered(self):
        book = Book("a")
        book.post(40, 7, pair(1))
        book.post(2, 0, pair(2))
        book.post(2, 7, pair(3)[::-1])
        self.assertEqual(book.entries(), [(40, 7, pair(1)), (2, 0, pair(2)), (2, 7, pair(3)[::-1])])
        self.assertIs(type(book.entries()), list)
        self.assertEqual([type(part) for part in book.entries()[0]], [int, int, list])

    def test_no_lines_are_an_entry(self):
        book = Book("a")
        self.assertEqual(book.post(4, 1, []), 0)
        self.assertEqual(book.post(4, 2, pair(1)), 1)
        self.assertEqual(book.entries(), [(4, 1, []), (4, 2, pair(1))])
        self.assertEqual(book.spots()[0][0], ("a", 1, 0))

    def test_lines_of_entries_of_several_coins(self):
        book = Book("a")
        rates = Rates()
        rates.tell("usd", 0, 1, 2)
        lines = entry_lines([("a", "cash", "usd", -2), ("a", "rent", "usd", 1), ("a", "stock", "usd", 1)], 0, rates)
        self.assertEqual(book.post(0, 1, lines), 0)
        self.assertEqual(book.lines_upto(), lines)
        self.assertEqual(book.figures(), [
            ("*rounding", "one", 0, -1), ("cash", "usd", -2, -1), ("rent", "usd", 1, 1), ("stock", "usd", 1, 1)])

    def test_any_day_of_a_plain_book(self):
        book = Book("a")
        for day in (9999, 0, 30, 29, 59):
            self.assertIsNone(book.may_enter(day))
            book.post(day, 1, pair(1))
        self.assertEqual([entry[0] for entry in book.entries()], [9999, 0, 30, 29, 59])

    def test_no_firm(self):
        book = Book("a")
        self.assert_no_firm(lambda: book.post(0, 1, pair(1, "b")), "b")
        self.assert_no_firm(lambda: book.post(0, 1, pair(1) + pair(1, "c") + pair(1, "b")), "c")
        self.assert_no_firm(lambda: Book("b").post(0, 1, pair(1, "ba")), "ba")
        self.assert_no_firm(lambda: Book("b").post(0, 1, pair(1, "b") + pair(1, "a")), "a")

    def test_unbalanced_in_a_coin(self):
        book = Book("a")
        lines = pair(1, coin="usd") + [("a", "cash", "yen", 2, 2), ("a", "cash", "eur", -2, -2)]
        self.assert_unbalanced(lambda: book.post(0, 1, lines), "a", "yen", 2)
        lines = [("a", "cash", "yen", 2, 2), ("a", "cash", "eur", -2, -2), ("a", "cash", "yen", -5, 0)]
        self.assert_unbalanced(lambda: book.post(0, 1, lines), "a", "yen", -3)

    def test_unbalanced_in_worth(self):
        book = Book("a")
        lines = [("a", "cash", "usd", 2, 3), ("a", "rent", "usd", -2, -1)]
        self.assert_unbalanced(lambda: book.post(0, 1, lines), "a", "", 2)
        self.assert_unbalanced(lambda: book.post(0, 1, [("a", "*rounding", "one", 0, -4)]), "a", "", -4)

    def test_order_of_refusals(self):
        book = Book("a")
        all_wrong = [("a", "cash", "usd", 2, 3), ("b", "rent", "usd", -1, -1)]
        self.assert_no_firm(lambda: book.post(0, 1, all_wrong), "b")
        both = [("a", "cash", "usd", 2, 3), ("a", "rent", "usd", -1, -1)]
        self.assert_unbalanced(lambda: book.post(0, 1, both), "a", "usd", 1)

    def test_refused_nothing_is_entered(self):
        book = Book("a")
        book.post(0, 1, pair(5))
        wrong = [pair(1, "b"), pair(1)[:1], [("a", "cash", "one", 0, 1)], pair(2) + pair(3, "b")]
        for lines in wrong:
            handed = list(lines)
            with self.assertRaises(BooksError):
                book.post(0, 2, handed)
            self.assertEqual(handed, lines)
            self.assertEqual(book.entries(), [(0, 1, pair(5))])
        self.assertEqual(book.post(0, 2, pair(6)), 1)

    def test_lines_handed_in_are_copied(self):
        book = Book("a")
        lines = pair(5)
        book.post(0, 1, lines)
        self.assertEqual(lines, pair(5))
        lines.append(("a", "cash", "one", 9, 9))
        lines[0] = ("b", "cash", "one", 5, 5)
        self.assertEqual(book.entries(), [(0, 1, pair(5))])
        self.assertEqual(book.lines_upto(), pair(5))

    def test_what_was_told_is_the_asker_s_own(self):
        book = Book("a")
        book.post(0, 1, pair(5))
        for ask in (book.entries, book.spots, book.lines_upto, book.figures):
            ask().clear()
            self.assertEqual(len(ask()), 1 if ask == book.entries else 2)
        book.entries()[0][2].clear()
        self.assertEqual(book.entries(), [(0, 1, pair(5))])

    def test_what_was_told_stays(self):
        book = Book("a")
        book.post(0, 1, pair(5))
        told = [book.entries(), book.spots(), book.lines_upto(), book.figures()]
        kept = [list(some) for some in told]
        book.post(0, 2, pair(6))
        self.assertEqual(told, kept)
        self.assertEqual(told[0], [(0, 1, pair(5))])

    def test_books_share_nothing(self):
        one, other = Book("a"), Book("a")
        one.post(0, 1, pair(5))
        self.assertEqual(other.entries(), [])
        self.assertEqual(other.post(0, 1, pair(6)), 0)

    def test_its_own_may_enter_is_asked_ahead_of_everything(self):
        book = Choosy("a")
        for lines in (pair(1), pair(1, "b"), pair(1)[:1], []):
            with self.assertRaises(KeyError):
                book.post(31, 1, lines)
        self.assertEqual(book.entries(), [])
        self.assertEqual(book.post(32, 1, pair(1)), 0)
        self.assert_no_firm(lambda: book.post(34, 1, pair(1, "b")), "b")
        self.assertEqual(book.asked, [31, 31, 31, 31, 32, 34])


class TestSpots(BooksTest):
    def filled(self):
        book = Book("a")
        for number, day in enumerate((60, 29, 30, 0, 59, 31, 89)):
            book.post(day, number + 1, pair(number + 1, other="rent" if number % 2 else "stock"))
        return book

    def assert_told(self, book, upto, numbers):
        told = []
        for number in numbers:
            for place, line in enumerate(book.entries()[number][2]):
                told.append((("a", number, place), line))
        self.assertEqual(book.spots(upto), told)
        self.assertEqual(book.lines_upto(upto), [line for spot, line in told])
        self.assertEqual(book.figures(upto), figures_of([line for spot, line in told]))

    def test_of_all_entries(self):
        book = self.filled()
        self.assert_told(book, None, range(7))
        self.assertEqual(book.spots(), book.spots(None))
        self.assertEqual(book.lines_upto(), book.lines_upto(None))
        self.assertEqual(book.figures(), book.figures(None))

    def test_up_to_a_month(self):
        book = self.filled()
        self.assert_told(book, 0, [1, 3])
        self.assert_told(book, 1, [1, 2, 3, 4, 5])
        self.assert_told(book, 2, range(7))
        self.assert_told(book, 3, range(7))
        self.assert_told(book, 10 ** 299, range(7))

    def test_written_out(self):
        book = Book("a")
        book.post(30, 1, pair(1))
        book.post(29, 2, pair(2))
        self.assertEqual(book.spots(0), [
            (("a", 1, 0), ("a", "cash", "one", 2, 2)), (("a", 1, 1), ("a", "rent", "one", -2, -2))])
        self.assertEqual(book.spots(), [
            (("a", 0, 0), ("a", "cash", "one", 1, 1)), (("a", 0, 1), ("a", "rent", "one", -1, -1)),
            (("a", 1, 0), ("a", "cash", "one", 2, 2)), (("a", 1, 1), ("a", "rent", "one", -2, -2))])
        self.assertEqual(book.lines_upto(0), pair(2))
        self.assertEqual(book.lines_upto(), pair(1) + pair(2))
        self.assertEqual(book.figures(0), [("cash", "one", 2, 2), ("rent", "one", -2, -2)])
        self.assertEqual(book.figures(), [("cash", "one", 3, 3), ("rent", "one", -3, -3)])

    def test_by_the_word_upto(self):
        book = self.filled()
        self.assertEqual(book.spots(upto=0), book.spots(0))
        self.assertEqual(book.lines_upto(upto=0), book.lines_upto(0))
        self.assertEqual(book.figures(upto=0), book.figures(0))

    def test_kinds(self):
        spot, line = self.filled().spots()[0]
        self.assertEqual((type(spot), type(line)), (tuple, tuple))
        self.assertIs(type(self.filled().spots()[0]), tuple)
        self.assertIs(type(self.filled().lines_upto()), list)
        self.assertIs(type(self.filled().figures()), list)

    def test_each_spot_names_one_line(self):
        book = self.filled()
        for spot, line in book.spots():
            self.assertEqual(book.entries()[spot[1]][2][spot[2]], line)
        spots = [spot for spot, line in book.spots()]
        self.assertEqual(len(spots), len(set(spots)))


if __name__ == "__main__":
    unittest.main()
