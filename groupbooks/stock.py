"""The goods that lie with the firms: spans of lots, each with the chain of what was paid for it."""

from groupbooks.chains import chain_costs, chain_gains
from groupbooks.errors import BadAmount, NoGoods, TooFew


class Holding:
    def __init__(self, lot, firm, start, stop, layers):
        # None of these is changed later, so that a stock and its copy may share a holding.
        self.lot = lot
        self.firm = firm
        self.start = start
        self.stop = stop
        self.layers = list(layers)

    def pieces(self):
        return self.stop - self.start

    def front(self, many):
        return (self.lot, self.start, self.start + many, list(self.layers))

    def behind(self, many):
        return Holding(self.lot, self.firm, self.start + many, self.stop, self.layers)

    def costs(self):
        return chain_costs(self.layers, self.start, self.stop)

    def gains(self):
        return chain_gains(self.layers, self.start, self.stop)


class Stock:
    def __init__(self):
        self.lying = {}

    def bring(self, number, firm, cost, many):
        if many < 1:
            raise BadAmount(many)
        self.lying[number] = Holding(number, firm, 0, many, [(firm, cost, 0, many)])

    def taken(self, number, firm, many):
        if many < 1:
            raise BadAmount(many)
        if number not in self.lying or self.lying[number].firm != firm:
            raise NoGoods(number)
        lack = many - self.lying[number].pieces()
        if lack > 0:
            raise TooFew(number, lack)
        return self.lying[number].front(many)

    def sell(self, number, firm, many):
        gone = self.taken(number, firm, many)
        left = self.lying[number].behind(many)
        if left.pieces() == 0:
            self.lying.pop(number)
        else:
            self.lying[number] = left
        return gone

    def hand(self, number, firm, many, sister, cost, new):
        # From where they lay, pieces that are handed on are gone as sold ones are.
        gone = self.sell(number, firm, many)
        start = gone[1]
        stop = gone[2]
        self.lying[new] = Holding(gone[0], sister, start, stop, gone[3] + [(sister, cost, start, stop)])
        return gone

    def holdings(self):
        some = [(number, self.lying[number]) for number in sorted(self.lying)]
        return [(number, one.lot, one.firm, one.start, one.stop, list(one.layers)) for number, one in some]

    def goods_of(self, firm):
        costs = [one.costs() for one in self.lying.values() if one.firm == firm]
        return (sum([some[0] for some in costs]), sum([some[-1] - some[0] for some in costs]))

    def unmade(self, firm):
        gained = 0
        for one in self.lying.values():
            gained = gained + sum([gain for maker, gain in one.gains() if maker == firm])
        return gained

    def copied(self):
        twin = Stock()
        twin.lying = dict(self.lying)
        return twin
