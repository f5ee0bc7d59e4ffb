"""Papers: each claims something of what it was made with, and tells whether its claim holds."""

from evenmix.bounds import most_in_cut
from evenmix.errors import NoStep, NoSwap
from evenmix.mixes import is_even, is_mixture, told_by
from evenmix.ones import is_ones
from evenmix.rounds import is_rounded
from evenmix.rows import heads_of
from evenmix.steps import row_behind
from evenmix.swaps import table_behind
from evenmix.tables import copied_table, sums_of_columns, sums_of_rows, times_row


class Paper:
    def holds(self):
        return True


class MixPaper(Paper):
    def __init__(self, table, pairs):
        self.table = copied_table(table)
        # The dealings are lists within the tuples, so they are copied too.
        self.pairs = [(pair[0], list(pair[1])) for pair in pairs]

    def holds(self):
        return is_mixture(self.pairs) and told_by(self.pairs) == self.table


class StepPaper(Paper):
    def __init__(self, one, other, steps):
        self.one = list(one)
        self.other = list(other)
        self.steps = list(steps)

    def holds(self):
        try:
            return row_behind(self.other, self.steps) == self.one
        except NoStep:
            return False


class BarPaper(Paper):
    def __init__(self, one, other, k):
        self.one = list(one)
        self.other = list(other)
        self.k = k

    def holds(self):
        if len(self.one) != len(self.other) or sum(self.one) != sum(self.other):
            return False
        if not 1 <= self.k <= len(self.one):
            return False
        return heads_of(self.one)[self.k - 1] > heads_of(self.other)[self.k - 1]


class LeadPaper(Paper):
    def __init__(self, one, other, table):
        self.one = list(one)
        self.other = list(other)
        self.table = copied_table(table)

    def holds(self):
        if not is_even(self.table) or not len(self.table) == len(self.one) == len(self.other):
            return False
        bottom = sum(self.table[0])
        return times_row(self.table, self.other) == [number * bottom for number in self.one]


class SumPaper(Paper):
    def __init__(self, rows, columns, table):
        self.rows = list(rows)
        self.columns = list(columns)
        self.table = copied_table(table)

    def holds(self):
        if not is_ones(self.table):
            return False
        return sums_of_rows(self.table) == self.rows and sums_of_columns(self.table) == self.columns


class CutPaper(Paper):
    def __init__(self, rows, columns, low, high, some, others):
        self.rows = list(rows)
        self.columns = list(columns)
        self.low = copied_table(low)
        self.high = copied_table(high)
        self.some = list(some)
        self.others = list(others)

    def holds(self):
        if not has_shape(self.low, self.rows, self.columns) or not has_shape(self.high, self.rows, self.columns):
            return False
        if not are_places(self.some, len(self.rows)) or not are_places(self.others, len(self.columns)):
            return False
        most = most_in_cut(self.columns, self.low, self.high, self.some, self.others)
        return sum([self.rows[row] for row in self.some]) > most


def has_shape(table, rows, columns):
    return len(table) == len(rows) and len(table[0]) == len(columns)


def are_places(numbers, many):
    # The places that are among the numbers come rising, each once: so do the numbers, if they are the same.
    return numbers == [place for place in range(many) if place in numbers]


class SwapPaper(Paper):
    def __init__(self, one, other, swaps):
        self.one = copied_table(one)
        self.other = copied_table(other)
        self.swaps = list(swaps)

    def holds(self):
        if not is_ones(self.one):
            return False
        try:
            return table_behind(self.one, self.swaps) == self.other
        except NoSwap:
            return False


class RoundPaper(Paper):
    def __init__(self, table, bottom, whole):
        self.table = copied_table(table)
        self.bottom = bottom
        self.whole = copied_table(whole)

    def holds(self):
        return is_rounded(self.table, self.bottom, self.whole)


class PairPaper(Paper):
    def __init__(self, first, second):
        self.first = first
        self.second = second

    def holds(self):
        return self.first.holds() and self.second.holds()
