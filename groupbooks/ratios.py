"""Fractions as tuples (top, bottom) in lowest terms, the bottom from 1 on."""

from groupbooks.errors import NoNumber


def divisor(one, other):
    one = abs(one)
    other = abs(other)
    while other != 0:
        rest = one % other
        one = other
        other = rest
    return one


def fraction(top, bottom=1):
    if bottom == 0:
        raise NoNumber("the bottom of a fraction is 0")
    shared = divisor(top, bottom)
    if bottom < 0:
        shared = -shared
    return (top // shared, bottom // shared)


def lowest(one):
    return fraction(one[0], one[1])


def joined(one, other):
    # Both are in lowest terms, so the sum can only be divided by what both
    # bottoms share. Looking no further keeps a long sum of long fractions quick.
    shared = divisor(one[1], other[1])
    top = one[0] * (other[1] // shared) + other[0] * (one[1] // shared)
    spare = divisor(top, shared)
    return (top // spare, (one[1] // shared) * (other[1] // spare))


def plus(one, other):
    return joined(lowest(one), lowest(other))


def minus(one, other):
    return plus(one, (-other[0], other[1]))


def times(one, other):
    return fraction(one[0] * other[0], one[1] * other[1])


def over(one, other):
    # The second's top comes to stand below, so fraction refuses nought there.
    return fraction(one[0] * other[1], one[1] * other[0])


def sum_of(some):
    total = fraction(0)
    for one in some:
        total = joined(total, lowest(one))
    return total


def under(one, other):
    return one[0] * other[1] < other[0] * one[1]
