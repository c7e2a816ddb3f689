"""What a group stands on: its firms, rates, holders and chart."""

from groupbooks.holders import checked


class Ground:
    def __init__(self, firms, rates, rows, chart):
        checked(firms, rows)
        self.firms = list(firms)
        self.rates = rates.copied()
        self.rows = list(rows)
        self.chart = dict(chart)
