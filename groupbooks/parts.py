"""The parts that holders have of firms, counted through all rounds."""

from groupbooks.holders import all_shares, checked, shares_of, strangers_of
from groupbooks.ratios import fraction, lowest, over, sum_of, times
from groupbooks.rounds import paper_of, square_of


def held_by(firms, rows, holder, parts, firm):
    """The shares of the firm that the holder has itself and through all firms but itself."""
    some = [fraction(shares_of(rows, holder, firm))]
    for other, part in zip(firms, parts):
        if other != holder:
            some.append(times(part, fraction(shares_of(rows, other, firm))))
    return sum_of(some)


def part_good(firms, rows, holder, parts, place):
    firm = firms[place]
    if firm == holder:
        return lowest(parts[place]) == fraction(1)
    return times(parts[place], fraction(all_shares(rows, firm))) == held_by(firms, rows, holder, parts, firm)


def parts_good(firms, rows, holder, parts):
    # Nothing is refused here, so what has no value is told to be wrong.
    if len(parts) != len(firms) or any([part[1] == 0 for part in parts]):
        return False
    return all([part_good(firms, rows, holder, parts, place) for place in range(len(firms))])


def checked_paper(firms, rows):
    checked(firms, rows)
    return paper_of(square_of(firms, rows))


def stranger_part(held, d, row):
    return fraction(sum([shares * number for shares, number in zip(held, row)]), d)


def last_parts(firms, rows):
    paper = checked_paper(firms, rows)
    told = []
    for stranger in strangers_of(firms, rows):
        held = [shares_of(rows, stranger, firm) for firm in firms]
        told.append((stranger, [stranger_part(held, d, row) for d, row in paper]))
    return told


def firm_parts(firms, rows):
    paper = checked_paper(firms, rows)
    told = []
    for place, firm in enumerate(firms):
        columns = [fraction(row[place], d) for d, row in paper]
        # The paper counts rounds through the firm itself again and again;
        # divided by the firm's own place, nothing is counted a second time.
        told.append((firm, [over(one, columns[place]) for one in columns]))
    return told
