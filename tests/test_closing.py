import random
import unittest

from groupbooks.books import Book, figures_of, month_of
from groupbooks.closing import KeptBook
from groupbooks.errors import BadPaper, BooksError, Closed, NoFirm, Unbalanced
from groupbooks.papers import paper_holds


def pair(amount, firm="a", one="cash", other="rent", coin="one"):
    """Two lines that come to 0 in amount and in worth."""
    return [(firm, one, coin, amount, amount), (firm, other, coin, -amount, -amount)]


def filled(days=(5, 35, 65), firm="a"):
    book = KeptBook(firm)
    for number, day in enumerate(days):
        book.post(day, number, pair(number + 1, firm))
    return book


class EqualTo:
    """A thing of another kind that is equal to what it was made of."""

    def __init__(self, thing):
        self.thing = thing

    def __eq__(self, other):
        return self.thing == other


class PaperTuple(tuple):
    pass


class ClosingTest(unittest.TestCase):
    def assert_closed(self, ask, book, month):
        with self.assertRaises(Closed) as taken:
            ask()
        self.assertEqual((taken.exception.book, taken.exception.month), (book, month))

    def assert_bad_paper(self, book, paper, month):
        with self.assertRaises(BadPaper) as taken:
            book.reopen(paper)
        self.assertEqual((taken.exception.book, taken.exception.month), (book.book, month))


class TestMayEnter(ClosingTest):
    def test_is_a_book_of_its_firm(self):
        book = KeptBook("zeta")
        self.assertIsInstance(book, Book)
        self.assertEqual(book.book, "zeta")
        self.assertEqual(book.entries(), [])

    def test_all_is_open_at_first(self):
        book = KeptBook("a")
        self.assertEqual(book.closed(), 0)
        for day in (0, 29, 30, 9999):
            self.assertIsNone(book.may_enter(day))
            book.post(day, 1, pair(1))

    def test_closed_counts_the_months(self):
        book = KeptBook("a")
        for many in range(1, 6):
            book.close()
            self.assertEqual(book.closed(), many)

    def test_days_of_closed_months_and_the_first_open_day(self):
        book = KeptBook("a")
        for many in range(1, 4):
            book.close()
            for day in range(30 * many):
                self.assert_closed(lambda: book.may_enter(day), "a", day // 30)
                self.assert_closed(lambda: book.post(day, 1, pair(1)), "a", day // 30)
            for day in (30 * many, 30 * many + 1, 30 * many + 29, 30 * many + 30, 9999):
                self.assertIsNone(book.may_enter(day))
                number = len(book.entries())
                self.assertEqual(book.post(day, 1, pair(1)), number)

    def test_closed_goes_ahead_of_all_other_refusals(self):
        book = KeptBook("a")
        book.close()
        book.close()
        for lines in (pair(1, "b"), pair(1)[:1], [("a", "cash", "one", 0, 1)], [], pair(1)):
            self.assert_closed(lambda: book.post(29, 1, lines), "a", 0)
            self.assert_closed(lambda: book.post(59, 1, lines), "a", 1)
        self.assertRaises(NoFirm, lambda: book.post(60, 1, pair(1, "b")))
        self.assertRaises(Unbalanced, lambda: book.post(60, 1, pair(1)[:1]))
        self.assertEqual(book.entries(), [])

    def test_refused_nothing_changes(self):
        book = filled()
        book.close()
        before = (book.entries(), book.closed(), book.told_papers(), book.standing())
        lines = pair(9)
        self.assert_closed(lambda: book.post(3, 1, lines), "a", 0)
        self.assertEqual(lines, pair(9))
        self.assertEqual((book.entries(), book.closed(), book.told_papers(), book.standing()), before)
        self.assertEqual(book.post(30, 1, lines), 3)


class TestClose(ClosingTest):
    def test_papers_of_months_one_by_one(self):
        book = filled()
        self.assertEqual(book.close(), ("a", 0, 1, [("cash", "one", 1, 1), ("rent", "one", -1, -1)]))
        self.assertEqual(book.close(), ("a", 1, 2, [("cash", "one", 3, 3), ("rent", "one", -3, -3)]))
        self.assertEqual(book.close(), ("a", 2, 3, [("cash", "one", 6, 6), ("rent", "one", -6, -6)]))
        self.assertEqual(book.close(), ("a", 3, 4, [("cash", "one", 6, 6), ("rent", "one", -6, -6)]))

    def test_last_and_first_days(self):
        book = filled((29, 30, 59, 60))
        self.assertEqual(book.close()[3], [("cash", "one", 1, 1), ("rent", "one", -1, -1)])
        self.assertEqual(book.close()[3], [("cash", "one", 6, 6), ("rent", "one", -6, -6)])

    def test_of_an_empty_book(self):
        book = KeptBook("zeta")
        self.assertEqual(book.close(), ("zeta", 0, 1, []))
        self.assertEqual(book.close(), ("zeta", 1, 2, []))

    def test_there_is_always_a_next_month(self):
        book = filled()
        for month in range(400):
            self.assertEqual(book.close()[1:3], (month, month + 1))

    def test_kinds(self):
        paper = filled().close()
        self.assertIs(type(paper), tuple)
        self.assertEqual([type(part) for part in paper], [str, int, int, list])
        self.assertIs(type(paper[3][0]), tuple)

    def test_turn_counts_this_book_s_papers_alone(self):
        filled().close()
        self.assertEqual(filled().close()[2], 1)

    def test_turn_goes_on_behind_openings(self):
        book = filled()
        for turn in range(1, 6):
            paper = book.close()
            self.assertEqual(paper[1:3], (0, turn))
            book.reopen(paper)
        book.close()
        self.assertEqual(book.close()[1:3], (1, 7))

    def test_what_is_done_to_a_told_paper_changes_none_that_is_kept(self):
        book = filled()
        paper = book.close()
        kept = ("a", 0, 1, [("cash", "one", 1, 1), ("rent", "one", -1, -1)])
        for told in (paper, book.told_papers()[0], book.standing()[0]):
            told[3].clear()
            told[3].append(("cash", "one", 77, 77))
            self.assertEqual(book.told_papers(), [kept])
            self.assertEqual(book.standing(), [kept])
            self.assert_bad_paper(book, told, 0)
        for papers in (book.told_papers(), book.standing()):
            papers.clear()
            self.assertEqual(book.told_papers(), [kept])
            self.assertEqual(book.standing(), [kept])
        self.assertEqual(book.closed(), 1)
        book.reopen(kept)

    def test_what_was_told_stays(self):
        book = filled()
        paper = book.close()
        told = [paper, book.told_papers(), book.standing()]
        kept = ("a", 0, 1, [("cash", "one", 1, 1), ("rent", "one", -1, -1)])
        book.post(30, 9, pair(50))
        book.close()
        book.reopen(book.told_papers()[-1])
        book.reopen(kept)
        book.post(0, 9, pair(50))
        book.close()
        self.assertEqual(told, [kept, [kept], [kept]])


class TestReopen(ClosingTest):
    def test_with_the_paper_told(self):
        book = filled()
        paper = book.close()
        self.assertIsNone(book.reopen(paper))
        self.assertEqual(book.closed(), 0)

    def test_with_an_equal_paper(self):
        for change in (lambda one: (one[0], one[1], one[2], list(one[3])), PaperTuple, EqualTo):
            book = filled()
            paper = book.close()
            book.reopen(change(paper))
            self.assertEqual(book.closed(), 0)

    def test_with_the_equal_paper_of_another_book(self):
        book = filled()
        book.close()
        book.reopen(filled().close())
        self.assertEqual(book.closed(), 0)

    def test_with_papers_that_the_book_tells(self):
        book = filled()
        book.close()
        book.close()
        book.reopen(book.standing()[-1])
        book.reopen(book.told_papers()[0])
        self.assertEqual(book.closed(), 0)

    def test_none_closed(self):
        book = filled()
        for paper in (None, 5, "a", [], (), ("a", -1, 0, []), ("a", 0, 1, [])):
            self.assert_bad_paper(book, paper, -1)
        self.assertEqual(book.closed(), 0)
        self.assert_bad_paper(KeptBook("zeta"), None, -1)

    def test_only_the_last_month_closed(self):
        book = filled()
        first, second, third = book.close(), book.close(), book.close()
        self.assert_bad_paper(book, first, 2)
        self.assert_bad_paper(book, second, 2)
        self.assertEqual(book.closed(), 3)
        book.reopen(third)
        self.assertEqual(book.closed(), 2)
        self.assert_bad_paper(book, third, 1)
        self.assert_bad_paper(book, first, 1)
        book.reopen(second)
        self.assert_bad_paper(book, second, 0)
        book.reopen(first)
        self.assertEqual(book.closed(), 0)
        self.assert_bad_paper(book, first, -1)

    def test_changed_at_each_place(self):
        book = filled()
        paper = book.close()
        figures = paper[3]
        wrong = [
            ("b",) + paper[1:], ("",) + paper[1:], paper[:1] + (1,) + paper[2:], paper[:1] + (-1,) + paper[2:],
            paper[:2] + (2,) + paper[3:], paper[:2] + (0,) + paper[3:],
            paper[:3] + ([],), paper[:3] + (figures[:1],), paper[:3] + (figures[::-1],), paper[:3] + (figures + figures[:1],),
            paper[:3] + (figures + [("stock", "one", 0, 0)],), paper[:3] + (tuple(figures),),
            paper[:3] + ([list(row) for row in figures],),
        ]
        for place, other in enumerate(("rent", "usd", 2, 2)):
            row = figures[0][:place] + (other,) + figures[0][place + 1:]
            wrong.append(paper[:3] + ([row] + figures[1:],))
        for changed in wrong:
            self.assert_bad_paper(book, changed, 0)
        self.assertEqual(book.closed(), 1)
        self.assertEqual(book.told_papers(), [paper])
        self.assertEqual(book.standing(), [paper])
        book.reopen(paper)

    def test_things_of_other_kinds(self):
        book = filled()
        paper = book.close()
        wrong = [
            None, True, False, 0, -1, "", "a", [], (), {}, {"a": 1}, [paper], (paper,), list(paper), paper[:3], paper[3],
            paper + (0,), repr(paper), EqualTo(5), object(), KeptBook, book, BadPaper("a", 0), frozenset(), 1.5, b"a",
        ]
        for thing in wrong:
            self.assert_bad_paper(book, thing, 0)
        self.assertEqual(book.closed(), 1)
        book.reopen(paper)

    def test_what_is_handed_in_stays(self):
        book = filled()
        paper = book.close()
        kept = (paper[0], paper[1], paper[2], list(paper[3]))
        book.reopen(paper)
        book.close()
        self.assertEqual(paper, kept)
        self.assert_bad_paper(book, paper, 0)
        self.assertEqual(paper, kept)

    def test_behind_it_the_month_is_open(self):
        book = filled()
        first = book.close()
        second = book.close()
        book.reopen(second)
        for day in (30, 59):
            self.assertIsNone(book.may_enter(day))
            book.post(day, 8, pair(10))
        self.assert_closed(lambda: book.post(29, 8, pair(10)), "a", 0)
        self.assertEqual(book.close(), ("a", 1, 3, [("cash", "one", 23, 23), ("rent", "one", -23, -23)]))
        self.assert_closed(lambda: book.post(59, 8, pair(10)), "a", 1)
        self.assertEqual(book.standing()[0], first)

    def test_a_paper_opens_once(self):
        book = filled()
        first = book.close()
        book.reopen(first)
        self.assert_bad_paper(book, first, -1)
        again = book.close()
        # Nothing was entered, so both papers differ in their turn alone.
        self.assertEqual(again, first[:2] + (2,) + first[3:])
        self.assert_bad_paper(book, first, 0)
        book.reopen(again)
        self.assert_bad_paper(book, again, -1)

    def test_asked_again_behind_a_refusal(self):
        book = filled()
        paper = ("a", 0, 1, [("cash", "one", 1, 1), ("rent", "one", -1, -1)])
        self.assert_bad_paper(book, paper, -1)
        book.close()
        book.reopen(paper)
        self.assertEqual(book.closed(), 0)


class TestPapersKept(ClosingTest):
    def test_none_at_first(self):
        self.assertEqual(KeptBook("a").told_papers(), [])
        self.assertEqual(KeptBook("a").standing(), [])

    def test_told_and_standing(self):
        book = filled()
        first, second = book.close(), book.close()
        self.assertEqual(book.told_papers(), [first, second])
        self.assertEqual(book.standing(), [first, second])
        book.reopen(second)
        self.assertEqual(book.told_papers(), [first, second])
        self.assertEqual(book.standing(), [first])
        book.post(40, 9, pair(4))
        third = book.close()
        self.assertEqual(book.told_papers(), [first, second, third])
        self.assertEqual(book.standing(), [first, third])
        book.reopen(third)
        book.reopen(first)
        self.assertEqual(book.told_papers(), [first, second, third])
        self.assertEqual(book.standing(), [])
        fourth = book.close()
        self.assertEqual(book.told_papers(), [first, second, third, fourth])
        self.assertEqual(book.standing(), [fourth])

    def test_papers_of_another_firm_stand_apart(self):
        one, other = filled(), filled(firm="b")
        one.close()
        self.assertEqual(other.told_papers(), [])
        self.assertEqual(other.closed(), 0)
        self.assert_bad_paper(other, one.told_papers()[0], -1)
        other.close()
        self.assert_bad_paper(other, one.told_papers()[0], 0)

    def test_deeds_closings_and_openings_in_any_order(self):
        source = random.Random(11)
        for turn in range(40):
            book = KeptBook("a")
            entered, told, shut = [], [], []
            for step in range(60):
                choice = source.randint(0, 4)
                if choice == 0:
                    figures = figures_of([line for day, lines in entered if month_of(day) <= len(shut) for line in lines])
                    paper = ("a", len(shut), len(told) + 1, figures)
                    self.assertEqual(book.close(), paper)
                    told.append(paper)
                    shut.append(paper)
                elif choice == 1 and told:
                    paper = source.choice(told + shut[-1:] * 3)
                    if shut and paper == shut[-1]:
                        self.assertIsNone(book.reopen(paper))
                        shut.pop()
                    else:
                        self.assert_bad_paper(book, paper, len(shut) - 1)
                else:
                    day, lines = source.randint(0, 179), pair(source.randint(-9, 9), one=source.choice(["cash", "stock"]))
                    if day < 30 * len(shut):
                        self.assert_closed(lambda: book.post(day, step, lines), "a", day // 30)
                    else:
                        self.assertEqual(book.post(day, step, lines), len(entered))
                        entered.append((day, lines))
                self.assertEqual(book.closed(), len(shut))
                self.assertEqual(book.told_papers(), told)
                self.assertEqual(book.standing(), shut)
                for paper in shut:
                    self.assertIs(paper_holds(book, paper), True)

    def test_refusals_of_a_kept_book_are_books_errors(self):
        book = KeptBook("a")
        self.assertRaises(BooksError, lambda: book.reopen(None))
        book.close()
        self.assertRaises(BooksError, lambda: book.post(0, 1, []))


if __name__ == "__main__":
    unittest.main()
