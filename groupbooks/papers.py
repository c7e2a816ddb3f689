"""What papers are checked by: the movement of a month, and figures carried on."""

from groupbooks.books import figures_of, month_of, put_together


def movement_of(book, month):
    lines = []
    for day, about, more in book.entries():
        if month_of(day) == month:
            lines.extend(more)
    return figures_of(lines)


def carried(figures, more):
    return put_together(figures + more)


def paper_holds(book, paper):
    return paper[0] == book.book and paper[3] == book.figures(paper[1])
