"""Whole numbers out of fractions: rounding, portions and dealing out."""

from groupbooks.errors import NoNumber


def nearest(top, bottom=1):
    if bottom < 1:
        raise NoNumber("the bottom is below 1")
    # Rounded without its sign, so that halves of either sign go away from nought.
    size = (2 * abs(top) + bottom) // (2 * bottom)
    if top < 0:
        return -size
    return size


def portion(amount, many, start, stop):
    if many < 1:
        raise NoNumber("there are no pieces")
    if start < 0 or stop > many or start > stop:
        raise NoNumber("the span is not one of the pieces")
    return (amount * stop) // many - (amount * start) // many


def dealt(amount, weights):
    if any([weight < 0 for weight in weights]):
        raise NoNumber("a weight is below 0")
    many = sum(weights)
    if many == 0:
        raise NoNumber("the weights come to 0")
    shares = []
    start = 0
    for weight in weights:
        shares.append(portion(amount, many, start, start + weight))
        start = start + weight
    return shares
