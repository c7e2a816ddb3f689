"""The square of a table of holders, and the paper of whole numbers that solves it."""

from groupbooks.errors import Singular
from groupbooks.holders import all_shares, shares_of
from groupbooks.ratios import divisor


def square_of(firms, rows):
    square = []
    for place, firm in enumerate(firms):
        numbers = [-shares_of(rows, holder, firm) for holder in firms]
        numbers[place] = numbers[place] + all_shares(rows, firm)
        square.append(numbers)
    return square


def only_at(many, place, number):
    return [number if at == place else 0 for at in range(many)]


def mixed(square, numbers):
    sums = [0] * len(square)
    for number, taken in zip(numbers, square):
        sums = [total + number * one for total, one in zip(sums, taken)]
    return sums


def widened(square):
    # Behind each list stands how often each list of the square is in it, so
    # that this stays known whatever the lists are turned into.
    many = len(square)
    return [list(numbers) + only_at(many, place, 1) for place, numbers in enumerate(square)]


def lean(numbers):
    # Divided at each step, so that the numbers grow no longer than they must.
    shared = 0
    for number in numbers:
        shared = divisor(shared, number)
    return [number // shared for number in numbers]


def cleared(numbers, by, place):
    return lean([one * by[place] - other * numbers[place] for one, other in zip(numbers, by)])


def first_with(lists, place):
    for at, numbers in enumerate(lists):
        if numbers[place] != 0:
            return at
    return None


def turned(square):
    """Two lists: the widened lists that lead a place of their own, and the others, left with noughts alone."""
    leading = []
    others = widened(square)
    for place in range(len(square)):
        at = first_with(others, place)
        if at is not None:
            by = others[at]
            others = [cleared(numbers, by, place) for numbers in others[:at] + others[at + 1:]]
            leading = [cleared(numbers, by, place) for numbers in leading] + [by]
    return (leading, others)


def pair_of(numbers, place, many):
    sign = 1 if numbers[place] > 0 else -1
    return (sign * numbers[place], [sign * number for number in numbers[many:]])


def paper_of(square):
    many = len(square)
    both = turned(square)
    if both[1] != []:
        raise Singular(both[1][0][many:])
    return [pair_of(numbers, place, many) for place, numbers in enumerate(both[0])]


def pair_good(square, place, d, row):
    many = len(square)
    return len(row) == many and d >= 1 and mixed(square, row) == only_at(many, place, d)


def paper_good(square, paper):
    if len(paper) != len(square):
        return False
    return all([pair_good(square, place, pair[0], pair[1]) for place, pair in enumerate(paper)])


def mix_good(square, mix):
    if len(mix) != len(square):
        return False
    return any([number != 0 for number in mix]) and mixed(square, mix) == [0] * len(square)
