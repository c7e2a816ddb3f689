"""The refusals: each one a class of its own under BooksError."""


class BooksError(ValueError):
    pass


class NoNumber(BooksError):
    pass


class NoRate(BooksError):
    def __init__(self, coin, day):
        self.coin = coin
        self.day = day


class Twice(BooksError):
    def __init__(self, coin, day):
        self.coin = coin
        self.day = day


class Unbalanced(BooksError):
    def __init__(self, book, coin, rest):
        self.book = book
        self.coin = coin
        self.rest = rest


class Closed(BooksError):
    def __init__(self, book, month):
        self.book = book
        self.month = month


class BadPaper(BooksError):
    def __init__(self, book, month):
        self.book = book
        self.month = month


class NoFirm(BooksError):
    def __init__(self, name):
        self.name = name


class BadAmount(BooksError):
    def __init__(self, amount):
        self.amount = amount


class Unheld(BooksError):
    def __init__(self, firm):
        self.firm = firm


class Ringed(BooksError):
    def __init__(self, ring):
        # A copy, so that no later change of the list handed in is seen here.
        self.ring = list(ring)


class Singular(BooksError):
    def __init__(self, mix):
        # A copy, for the same reason as in Ringed.
        self.mix = list(mix)


class NoSister(BooksError):
    def __init__(self, name):
        self.name = name


class NoAccount(BooksError):
    def __init__(self, account):
        self.account = account


class NoGoods(BooksError):
    def __init__(self, holding):
        self.holding = holding


class TooFew(BooksError):
    def __init__(self, holding, lack):
        self.holding = holding
        self.lack = lack


class NoDeed(BooksError):
    def __init__(self, number):
        self.number = number


class Broken(BooksError):
    def __init__(self, number):
        self.number = number


class NoRow(BooksError):
    pass
