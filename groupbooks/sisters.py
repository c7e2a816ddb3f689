"""The kinds of deeds between a firm and its sisters or its owners."""

from groupbooks.deeds import Deed


class Hand(Deed):
    def __init__(self, day, firm, sister, coin, amount, holding, many):
        Deed.__init__(self, day)
        self.firm = firm
        self.sister = sister
        self.coin = coin
        self.amount = amount
        self.holding = holding
        self.many = many


class Charge(Deed):
    def __init__(self, day, firm, coin, parts):
        Deed.__init__(self, day)
        self.firm = firm
        self.coin = coin
        self.parts = list(parts)


class Fund(Deed):
    def __init__(self, day, firm, sister, coin, amount, account="cash"):
        Deed.__init__(self, day)
        self.firm = firm
        self.sister = sister
        self.coin = coin
        self.amount = amount
        self.account = account


class Payout(Deed):
    def __init__(self, day, firm, coin, amount, account="cash"):
        Deed.__init__(self, day)
        self.firm = firm
        self.coin = coin
        self.amount = amount
        self.account = account
