"""The sides of a deed, what its firms are due from one another, and its lines."""

from groupbooks.errors import Unbalanced


def rests_of(sides):
    rests = {}
    for firm, account, coin, amount in sides:
        rests[coin] = rests.get(coin, 0) + amount
    return list(rests.items())


def half_rests(sides):
    rests = {}
    for firm, account, coin, amount in sides:
        rests[(firm, coin)] = rests.get((firm, coin), 0) + amount
    return rests


def firms_in(sides):
    return list(dict([(side[0], True) for side in sides]))


def dues_added(sides, coins):
    firms = firms_in(sides)
    rests = half_rests(sides)
    added = []
    for firm in firms[1:]:
        for coin in coins:
            rest = rests.get((firm, coin), 0)
            if rest != 0:
                added.append((firm, ".due." + firms[0], coin, -rest))
                added.append((firms[0], ".due." + firm, coin, rest))
    return added


def with_dues(sides):
    rests = rests_of(sides)
    for coin, rest in rests:
        if rest != 0:
            raise Unbalanced(sides[0][0], coin, rest)
    return list(sides) + dues_added(sides, [coin for coin, rest in rests])


def lined_by(sides, day, rates):
    lines = []
    rests = {}
    for firm, account, coin, amount in sides:
        worth = rates.worth(amount, coin, day)
        lines.append((firm, account, coin, amount, worth))
        rests[firm] = rests.get(firm, 0) + worth
    for firm, rest in rests.items():
        if rest != 0:
            lines.append((firm, "*rounding", rates.told, 0, -rest))
    return lines


def entry_lines(sides, day, rates):
    return lined_by(with_dues(sides), day, rates)
