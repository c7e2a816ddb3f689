"""What is done, told as deeds: the base of all kinds, and the kinds without a sister."""


class Deed:
    def __init__(self, day):
        self.day = day


class Joint(Deed):
    def __init__(self, day, sides):
        Deed.__init__(self, day)
        self.sides = list(sides)


class Change(Deed):
    def __init__(self, day, firm, coin, amount, other, gets, account="cash"):
        Deed.__init__(self, day)
        self.firm = firm
        self.coin = coin
        self.amount = amount
        self.other = other
        self.gets = gets
        self.account = account


class Buy(Deed):
    def __init__(self, day, firm, coin, amount, many, account="cash"):
        Deed.__init__(self, day)
        self.firm = firm
        self.coin = coin
        self.amount = amount
        self.many = many
        self.account = account


class Sell(Deed):
    def __init__(self, day, firm, coin, amount, holding, many, account="cash"):
        Deed.__init__(self, day)
        self.firm = firm
        self.coin = coin
        self.amount = amount
        self.holding = holding
        self.many = many
        self.account = account
