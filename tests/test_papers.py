import itertools
import random
import unittest

from groupbooks.books import Book, figures_of
from groupbooks.closing import KeptBook
from groupbooks.papers import carried, movement_of, paper_holds


def pair(amount, firm="a", one="cash", other="rent", coin="one"):
    """Two lines that come to 0 in amount and in worth."""
    return [(firm, one, coin, amount, amount), (firm, other, coin, -amount, -amount)]


def filled(book, days=(5, 35, 65)):
    for number, day in enumerate(days):
        book.post(day, number, pair(number + 1, book.book))
    return book


def two(amount):
    return [("cash", "one", amount, amount), ("rent", "one", -amount, -amount)]


class TestMovementOf(unittest.TestCase):
    def test_of_that_very_month(self):
        for kind in (Book, KeptBook):
            book = filled(kind("a"), (60, 29, 30, 0, 59, 31, 89))
            self.assertEqual(movement_of(book, 0), two(2 + 4))
            self.assertEqual(movement_of(book, 1), two(3 + 5 + 6))
            self.assertEqual(movement_of(book, 2), two(1 + 7))
            self.assertEqual(movement_of(book, 3), [])

    def test_of_an_empty_book_and_of_an_empty_entry(self):
        book = Book("a")
        self.assertEqual(movement_of(book, 0), [])
        book.post(0, 1, [])
        self.assertEqual(movement_of(book, 0), [])

    def test_sorted_and_both_sums_nought_left_out(self):
        book = Book("a")
        book.post(31, 1, pair(5, one="stock", other="cash") + pair(3, one="*bridge", other=".within"))
        book.post(32, 2, pair(-5, one="stock", other="loan") + [("a", "*rounding", "one", 0, 2), ("a", "stock", "one", 0, -2)])
        self.assertEqual(movement_of(book, 1), [
            ("*bridge", "one", 3, 3), ("*rounding", "one", 0, 2), (".within", "one", -3, -3), ("cash", "one", -5, -5),
            ("loan", "one", 5, 5), ("stock", "one", 0, -2)])
        book.post(33, 3, pair(-3, one="*bridge", other=".within"))
        self.assertEqual([row[0] for row in movement_of(book, 1)], ["*rounding", "cash", "loan", "stock"])

    def test_months_closed_and_open(self):
        book = filled(KeptBook("a"))
        book.close()
        self.assertEqual([movement_of(book, month) for month in range(4)], [two(1), two(2), two(3), []])

    def test_changes_nothing(self):
        book = filled(KeptBook("a"))
        entries = book.entries()
        told = movement_of(book, 0)
        told.clear()
        self.assertEqual(book.entries(), entries)
        told = movement_of(book, 0)
        book.post(0, 7, pair(9))
        self.assertEqual(told, two(1))
        self.assertEqual(movement_of(book, 0), two(10))


class TestCarried(unittest.TestCase):
    def test_sums_by_account_and_coin(self):
        figures = [("cash", "eur", 1, 2), ("cash", "usd", 3, 4), ("rent", "usd", 5, 6)]
        more = [("cash", "usd", 10, 20), ("loan", "usd", 7, 7), ("rent", "eur", 8, 8)]
        self.assertEqual(carried(figures, more), [
            ("cash", "eur", 1, 2), ("cash", "usd", 13, 24), ("loan", "usd", 7, 7), ("rent", "eur", 8, 8), ("rent", "usd", 5, 6)])

    def test_sorted(self):
        figures = [("cash", "one", 1, 1), ("rent", "one", 1, 1)]
        more = [("*rounding", "one", 0, 1), (".due.b", "usd", 1, 1), ("cash", "eur", 1, 1), ("cas", "zzz", 1, 1)]
        ordered = [("*rounding", "one"), (".due.b", "usd"), ("cas", "zzz"), ("cash", "eur"), ("cash", "one"), ("rent", "one")]
        self.assertEqual([row[:2] for row in carried(figures, more)], ordered)
        self.assertEqual([row[:2] for row in carried(more, figures)], ordered)

    def test_both_sums_nought_left_out_one_is_not(self):
        figures = [("cash", "one", 5, 5), ("loan", "one", 5, 5), ("rent", "one", 5, 5)]
        more = [("cash", "one", -5, -5), ("loan", "one", -5, 0), ("rent", "one", 0, -5)]
        self.assertEqual(carried(figures, more), [("loan", "one", 0, 5), ("rent", "one", 5, 0)])

    def test_of_none(self):
        self.assertEqual(carried([], []), [])
        self.assertEqual(carried(two(4), []), two(4))
        self.assertEqual(carried([], two(4)), two(4))

    def test_lists_stay_and_what_is_told_is_new(self):
        for figures, more in ((two(4), two(5)), (two(4), []), ([], two(5))):
            handed = (list(figures), list(more))
            told = carried(handed[0], handed[1])
            self.assertEqual(handed, (figures, more))
            kept = list(told)
            handed[0].clear()
            handed[1].clear()
            self.assertEqual(told, kept)
            told.append(("x", "one", 1, 1))
            self.assertEqual(handed, ([], []))
        self.assertIs(type(carried([], [])), list)

    def test_one_list_handed_in_twice(self):
        figures = two(4)
        self.assertEqual(carried(figures, figures), two(8))
        self.assertEqual(figures, two(4))

    def test_figures_of_both_parts_of_lines(self):
        source = random.Random(2)
        for turn in range(100):
            lines = [
                ("a", source.choice(["cash", "rent", "*cost"]), source.choice(["one", "usd"]), source.randint(-2, 2), source.randint(-2, 2))
                for place in range(12)]
            cut = source.randint(0, 12)
            self.assertEqual(carried(figures_of(lines[:cut]), figures_of(lines[cut:])), figures_of(lines))


class TestPapersCarriedOn(unittest.TestCase):
    def test_each_paper_is_the_one_ahead_with_its_month_s_movement(self):
        source = random.Random(8)
        for turn in range(20):
            book = KeptBook("a")
            for number in range(30):
                coins = source.choice(["one", "usd"])
                book.post(source.randint(0, 179), number, pair(source.randint(-3, 3), one=source.choice(["cash", "loan"]), coin=coins))
            for month in range(7):
                book.close()
            for step in range(3):
                book.reopen(book.standing()[-1])
            book.post(150, 99, pair(5))
            book.close()
            papers = book.standing()
            self.assertEqual(len(papers), 5)
            self.assertEqual(papers[0][3], movement_of(book, 0))
            for ahead, paper in itertools.pairwise(papers):
                self.assertEqual(paper[3], carried(ahead[3], movement_of(book, paper[1])))


class TestPaperHolds(unittest.TestCase):
    def test_of_a_closed_month_whatever_is_entered_later(self):
        book = filled(KeptBook("a"))
        paper = book.close()
        self.assertIs(paper_holds(book, paper), True)
        book.post(30, 7, pair(50))
        self.assertIs(paper_holds(book, paper), True)
        book.close()
        book.post(60, 8, pair(50))
        self.assertIs(paper_holds(book, paper), True)
        self.assertEqual([paper_holds(book, one) for one in book.standing()], [True, True])

    def test_behind_an_opening_it_may_hold_or_not(self):
        book = filled(KeptBook("a"))
        first = book.close()
        book.reopen(first)
        self.assertIs(paper_holds(book, first), True)
        book.post(29, 7, pair(50))
        self.assertIs(paper_holds(book, first), False)
        second = book.close()
        self.assertIs(paper_holds(book, second), True)
        self.assertIs(paper_holds(book, first), False)
        book.reopen(second)
        book.post(0, 8, pair(-50))
        self.assertIs(paper_holds(book, first), True)
        self.assertIs(paper_holds(book, second), False)
        book.close()
        self.assertEqual([paper_holds(book, one) for one in book.told_papers()], [True, False, True])

    def test_turn_and_closing_are_not_looked_at(self):
        book = filled(KeptBook("a"))
        for turn in (0, 1, 77, -5):
            self.assertIs(paper_holds(book, ("a", 0, turn, two(1))), True)
            self.assertIs(paper_holds(book, ("a", 1, turn, two(3))), True)
            self.assertIs(paper_holds(book, ("a", 2, turn, two(6))), True)
            self.assertIs(paper_holds(book, ("a", 300, turn, two(6))), True)
            self.assertIs(paper_holds(book, ("a", 1, turn, two(2))), False)

    def test_of_a_plain_book(self):
        book = filled(Book("a"))
        self.assertIs(paper_holds(book, ("a", 0, 1, two(1))), True)
        self.assertIs(paper_holds(book, ("a", 0, 1, two(2))), False)
        self.assertIs(paper_holds(Book("a"), ("a", 0, 1, [])), True)

    def test_of_another_firm(self):
        book = filled(KeptBook("a"))
        self.assertIs(paper_holds(book, filled(KeptBook("b")).close()), False)
        self.assertIs(paper_holds(book, filled(KeptBook("a")).close()), True)
        for name in ("b", "", "aa", "A", "*a", ".due.a", "two words"):
            self.assertIs(paper_holds(book, (name, 0, 1, two(1))), False)

    def test_of_other_figures(self):
        book = filled(KeptBook("a"))
        right = two(1)
        wrong = [
            [], right[:1], right[::-1], right + right[:1], right + [("stock", "one", 0, 0)], [("no such", "!", 1, 1)] + right[1:],
            [("cash", "one", 1, 2)] + right[1:], [("cash", "one", 2, 1)] + right[1:], [("cash", "usd", 1, 1)] + right[1:],
            [("", "", 1, 1)] + right[1:],
        ]
        for figures in wrong:
            self.assertIs(paper_holds(book, ("a", 0, 1, figures)), False)
        self.assertIs(paper_holds(book, ("a", 0, 1, right)), True)

    def test_changes_nothing(self):
        book = filled(KeptBook("a"))
        paper = book.close()
        before = (book.entries(), book.closed(), book.told_papers(), book.standing())
        paper_holds(book, paper)
        paper_holds(book, ("b", 7, 1, []))
        self.assertEqual(paper, ("a", 0, 1, two(1)))
        self.assertEqual((book.entries(), book.closed(), book.told_papers(), book.standing()), before)


if __name__ == "__main__":
    unittest.main()
