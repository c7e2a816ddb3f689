"""A book whose months are closed one by one, each with a paper."""

from groupbooks.books import Book, month_of
from groupbooks.errors import BadPaper, Closed


def paper_copy(paper):
    # The list in a paper could be changed by whoever has the paper.
    return (paper[0], paper[1], paper[2], list(paper[3]))


class KeptBook(Book):
    def __init__(self, firm):
        Book.__init__(self, firm)
        self.papers = []
        self.in_force = []

    def may_enter(self, day):
        month = month_of(day)
        if month < self.closed():
            raise Closed(self.book, month)

    def closed(self):
        return len(self.in_force)

    def close(self):
        month = self.closed()
        paper = (self.book, month, len(self.papers) + 1, self.figures(month))
        self.papers.append(paper)
        self.in_force.append(paper)
        return paper_copy(paper)

    def reopen(self, paper):
        # With no month closed the last one closed comes out as -1.
        month = self.closed() - 1
        if month < 0 or not paper == self.in_force[month]:
            raise BadPaper(self.book, month)
        self.in_force.pop()

    def told_papers(self):
        return [paper_copy(paper) for paper in self.papers]

    def standing(self):
        return [paper_copy(paper) for paper in self.in_force]
