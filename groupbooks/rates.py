"""What coins are worth in the told coin, day by day."""

from groupbooks.errors import NoNumber, NoRate, Twice
from groupbooks.ratios import fraction
from groupbooks.sharing import nearest


class Rates:
    def __init__(self, told="one"):
        self.told = told
        self.known = {}

    def tell(self, coin, day, top, bottom=1):
        if top < 1 or bottom < 1:
            raise NoNumber("the top and the bottom of a rate are from 1 on")
        if coin == self.told or (coin, day) in self.known:
            raise Twice(coin, day)
        self.known[(coin, day)] = fraction(top, bottom)

    def rate(self, coin, day):
        if coin == self.told:
            return fraction(1)
        days = [key[1] for key in self.known if key[0] == coin and key[1] <= day]
        if len(days) == 0:
            raise NoRate(coin, day)
        return self.known[(coin, max(days))]

    def worth(self, amount, coin, day):
        price = self.rate(coin, day)
        return nearest(amount * price[0], price[1])

    def copied(self):
        twin = Rates(self.told)
        twin.known = dict(self.known)
        return twin
