"""A firm's book: entries that come to nought, and the figures of their lines."""

from groupbooks.errors import NoFirm, Unbalanced
from groupbooks.halves import rests_of


def month_of(day):
    return day // 30


def put_together(rows):
    sums = {}
    for account, coin, amount, worth in rows:
        so_far = sums.get((account, coin), (0, 0))
        sums[(account, coin)] = (so_far[0] + amount, so_far[1] + worth)
    figures = []
    for account, coin in sorted(sums):
        total = sums[(account, coin)]
        if total != (0, 0):
            figures.append((account, coin, total[0], total[1]))
    return figures


def figures_of(lines):
    return put_together([line[1:] for line in lines])


def check_entry(book, lines):
    for line in lines:
        if line[0] != book:
            raise NoFirm(line[0])
    for coin, rest in rests_of([line[:4] for line in lines]):
        if rest != 0:
            raise Unbalanced(book, coin, rest)
    worth = sum([line[4] for line in lines])
    if worth != 0:
        raise Unbalanced(book, "", worth)


class Book:
    def __init__(self, firm):
        self.book = firm
        self.kept = []

    def may_enter(self, day):
        # A plain book may be entered on any day; other kinds refuse here.
        return None

    def post(self, day, about, lines):
        self.may_enter(day)
        check_entry(self.book, lines)
        self.kept.append((day, about, tuple(lines)))
        return len(self.kept) - 1

    def entries(self):
        return [(day, about, list(lines)) for day, about, lines in self.kept]

    def spots(self, upto=None):
        found = []
        for number, entry in enumerate(self.kept):
            if upto is None or month_of(entry[0]) <= upto:
                for place, line in enumerate(entry[2]):
                    found.append(((self.book, number, place), line))
        return found

    def lines_upto(self, upto=None):
        return [line for spot, line in self.spots(upto)]

    def figures(self, upto=None):
        return figures_of(self.lines_upto(upto))
