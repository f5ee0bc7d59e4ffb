"""What the tests share: asking twice, and looking at what was handed in."""

import copy
import fractions
import itertools
import sys
import unittest

from evenmix import errors

REFUSALS = (
    "NoTable", "NoBottom", "NotAlike", "NoStep", "NoMix", "NotEven", "NoSwap",
    "NoBounds", "NoPlace", "NoSums", "TooGreat", "NoNumber", "NoText",
)

# Thirty figures, above and below 0.
GREAT = 10 ** 30 - 1
SMALL = -GREAT

NO_BOTTOMS = (
    0, -1, -2, SMALL, True, False, None, "", "1", "two", b"1", 1.0, 2.5, float("nan"), float("inf"), 1j,
    fractions.Fraction(2), [], [1], [[1]], (), (1,), {}, {1: 1}, {1}, range(1), object(), int,
)


def lists_in(thing, seen=None):
    """All lists within a thing, itself too, one entry for each place where one stands."""
    seen = [] if seen is None else seen
    if isinstance(thing, list):
        known = any(thing is other for other in seen)
        seen.append(thing)
        if known:
            return seen
    if isinstance(thing, (list, tuple)):
        for part in thing:
            lists_in(part, seen)
    return seen


def leaves_in(thing):
    if isinstance(thing, (list, tuple)):
        return [leaf for part in thing for leaf in leaves_in(part)]
    return [thing]


def places_in(thing):
    return [id(each) for each in lists_in(thing)]


def head_by_choice(row, many):
    return max(sum(some) for some in itertools.combinations(row, many))


def bar_by_choice(one, other):
    for many in range(1, len(one) + 1):
        if head_by_choice(one, many) > head_by_choice(other, many):
            return many
    return None


def sums_by_hand(table):
    return [sum(row) for row in table], [sum(column) for column in zip(*table)]


def bars_by_hand(some, others, rows, columns, low, high):
    """Whether a cut bars, added up as point 20 says."""
    most = sum(columns[column] for column in others)
    for row, column in itertools.product(range(len(rows)), range(len(columns))):
        if row in some and column not in others:
            most += high[row][column]
        if row not in some and column in others:
            most -= low[row][column]
    return sum(rows[row] for row in some) > most


def rounded_by_hand(table, bottom, whole):
    """Whether a table is what point 22 asks of another above a bottom, rounded; both of the same shape."""
    pairs = [(table, whole)] + list(zip(table, whole)) + list(zip(zip(*table), zip(*whole)))
    numbers = [(cell, other) for one, two in zip(table, whole) for cell, other in zip(one, two)]
    numbers += [(sum(leaves_in(list(one))), sum(leaves_in(list(two)))) for one, two in pairs]
    return all(abs(two * bottom - one) < bottom for one, two in numbers)


def all_ones(height, width):
    """All tables of ones of a height and a width."""
    for cells in itertools.product((0, 1), repeat=height * width):
        yield [list(cells[width * row:width * row + width]) for row in range(height)]


def ones_by_sums(height, width):
    """All tables of ones of a height and a width, by the sums of their rows and columns."""
    tables = {}
    for table in all_ones(height, width):
        rows, columns = sums_by_hand(table)
        tables.setdefault((tuple(rows), tuple(columns)), []).append(table)
    return tables


class Numbers:
    """Numbers that jump about, the same ones each time: from low to high, both let in."""

    def __init__(self, seed):
        self.state = seed

    def pick(self, low, high):
        many = 0
        for each in range(5):
            self.state = (self.state * 6364136223846793005 + 1442695040888963407) % 2 ** 64
            many = (many << 31) + (self.state >> 33)
        return low + many % (high - low + 1)

    def row(self, length, low, high):
        return [self.pick(low, high) for each in range(length)]

    def table(self, height, width, low, high):
        return [self.row(width, low, high) for each in range(height)]

    def order(self, length):
        places = list(range(length))
        return [places.pop(self.pick(0, len(places) - 1)) for each in range(length)]

    def even_table(self, length, dealings, high):
        table = [[0] * length for each in range(length)]
        for each in range(dealings):
            parts = self.pick(1, high)
            for row, column in enumerate(self.order(length)):
                table[row][column] += parts
        return table

    def two_rows(self, length, low, high, rounds):
        """A row, and one that is more even, made by steps and put into another order."""
        other = self.row(length, low, high)
        one = list(other)
        for each in range(rounds):
            giver, taker = self.pick(0, length - 1), self.pick(0, length - 1)
            if one[giver] > one[taker]:
                amount = self.pick(1, one[giver] - one[taker])
                one[giver] -= amount
                one[taker] += amount
        return [one[place] for place in self.order(length)], other


class MixCase(unittest.TestCase):
    def assertEven(self, table, length):
        self.assertEqual([len(row) for row in table], [length] * length)
        for number in [number for row in table for number in row]:
            self.assertIs(type(number), int)
            self.assertGreaterEqual(number, 0)
        sums = [sum(row) for row in table] + [sum(column) for column in zip(*table)]
        self.assertEqual(len(set(sums)), 1, table)
        self.assertGreaterEqual(sums[0], 1)

    def assertRising(self, some, many):
        self.assertIsInstance(some, list)
        self.assertEqual(some, [number for number in range(many) if number in some])
        self.assertTrue(all(type(number) is int for number in some))

    def assertOnes(self, table, rows, columns):
        self.assertIsInstance(table, list)
        self.assertEqual([type(row) for row in table], [list] * len(rows))
        self.assertEqual([len(row) for row in table], [len(columns)] * len(rows))
        self.assertTrue(all(type(cell) is int and cell in (0, 1) for row in table for cell in row), table)
        self.assertEqual(sums_by_hand(table), (list(rows), list(columns)))

    def assertBars(self, some, others, rows, columns, low, high):
        self.assertRising(some, len(rows))
        self.assertRising(others, len(columns))
        self.assertTrue(bars_by_hand(some, others, rows, columns, low, high), (some, others))

    def told_at_once(self, lines, ask, *things):
        """The answer, for which no more than so many lines are walked: counted, as a clock would judge the machine."""
        left = [lines]

        def count(frame, event, argument):
            left[0] -= 1
            if left[0] < 0:
                raise AssertionError("too long")
            return count

        before = sys.gettrace()
        sys.settrace(count)
        try:
            return ask(*things)
        finally:
            sys.settrace(before)

    def told(self, ask, *things):
        """The answer; on the way, what point 2 says of all functions is held."""
        words, places = repr(things), places_in(things)
        first = ask(*things)
        if isinstance(first, (list, tuple)):
            self.assertLessEqual({type(leaf) for leaf in leaves_in(first)}, {int, str}, "told what is no number")
        kept = copy.deepcopy(first)
        second = ask(*things)
        self.assertEqual(repr(things), words, "handed in, and changed")
        self.assertEqual(places_in(things), places, "handed in, and exchanged")
        self.assertEqual(repr(second), repr(kept))
        told = places_in(first) + places_in(second)
        self.assertEqual(len(told), len(set(told)), "a list was told in two places")
        self.assertFalse(set(told) & set(places), "what was handed in was told")
        for each in lists_in(first):
            each.append("changed by whoever asked")
        self.assertEqual(repr(second), repr(kept))
        self.assertEqual(repr(things), words)
        self.assertEqual(repr(ask(*things)), repr(kept))
        return kept

    def refused(self, name, ask, *things):
        words, places = repr(things), places_in(things)
        with self.assertRaises(ValueError, msg=words) as caught:
            ask(*things)
        self.assertIs(type(caught.exception), getattr(errors, name), words)
        self.assertIsInstance(caught.exception, errors.MixError)
        for other in REFUSALS:
            if other != name:
                self.assertNotIsInstance(caught.exception, getattr(errors, other))
        self.assertEqual(repr(things), words, "refused, and changed")
        self.assertEqual(places_in(things), places, "refused, and exchanged")


class LeadTests:
    """Points 8 and 10, for steps and for tables alike: ask is the function, leads looks at what it tells."""

    ask = None

    def bars(self, one, other, bar):
        self.assertEqual(self.told(self.ask, one, other), ("bar", bar))

    def test_a_row_to_itself(self):
        for row in ([5], [0], [1, 2, 3], [2, 2, 2], [-1, 0, -1], [GREAT, SMALL, 0], [8, 7, 6, 5, 4, 3, 2, 1]):
            self.leads(row, row)
            self.leads(row, list(row))

    def test_rows_of_one_number(self):
        for number in (0, 1, -1, GREAT, SMALL):
            self.leads([number], [number])
        self.refused("NotAlike", self.ask, [1], [2])

    def test_both_ways_round(self):
        for one, other, bar in (([2, 2, 2], [3, 2, 1], 1), ([2, 2, 2], [0, 6, 0], 1), ([1, 2, 3], [3, 3, 0], 2),
                                ([0, 0], [1, -1], 1), ([-1, -1], [-3, 1], 1)):
            self.leads(one, other)
            self.bars(other, one, bar)

    def test_neither_is_more_even(self):
        self.bars([4, 1, 1], [3, 3, 0], 1)
        self.bars([3, 3, 0], [4, 1, 1], 2)

    def test_the_same_numbers_in_another_order(self):
        for order in itertools.permutations([1, 2, 3, 4]):
            self.leads(list(order), [1, 2, 3, 4])
            self.leads([2, 3, 4, 1], list(order))
        for order in itertools.permutations([1, 2, 1, 2]):
            self.leads(list(order), [1, 2, 1, 2])
        self.leads([2, 3, 4, 5, 6, 7, 8, 1], [1, 2, 3, 4, 5, 6, 7, 8])
        self.leads([8, 1, 2, 3, 4, 5, 6, 7], [1, 2, 3, 4, 5, 6, 7, 8])

    def test_eight(self):
        self.leads([1] * 8, [8, 0, 0, 0, 0, 0, 0, 0])
        self.leads([1] * 8, [0, 0, 0, 0, 0, 0, 0, 8])
        self.leads([0] * 8, [-7, 1, 1, 1, 1, 1, 1, 1])
        self.leads([1, 2, 3, 4, 5, 6, 7, 8], [0, 1, 2, 3, 6, 7, 8, 9])
        self.bars([8, 0, 0, 0, 0, 0, 0, 0], [1] * 8, 1)
        self.bars([1, 1, 1, 1, 1, 1, 1, -7], [1, 1, 1, 1, 1, 1, 0, -6], 7)

    def test_many_figures_on_both_sides_of_nought(self):
        numbers = Numbers(10)
        for figures, length, rounds in itertools.product((18, 19, 30), range(2, 9), (1, 3, 20)):
            one, other = numbers.two_rows(length, -10 ** figures + 1, 10 ** figures - 1, rounds)
            self.leads(one, other)
            bar = bar_by_choice(other, one)
            if bar is not None:
                self.bars(other, one, bar)
        self.leads([0, 0], [SMALL, GREAT])
        self.leads([GREAT, SMALL], [SMALL, GREAT])
        self.leads([GREAT - 1, 0, 1 - GREAT], [SMALL, 0, GREAT])

    def test_all_small_ones(self):
        for length, low, high in ((2, -2, 2), (3, -2, 2), (4, 0, 2)):
            rows = [list(row) for row in itertools.product(range(low, high + 1), repeat=length)]
            for one, other in itertools.product(rows, repeat=2):
                bar = bar_by_choice(one, other)
                if sum(one) == sum(other) and bar is None:
                    self.leads(one, other)
                elif sum(one) == sum(other):
                    self.bars(one, other, bar)

    def test_beyond_eight_nothing_is_refused(self):
        self.leads([1] * 10, [10, 0, 0, 0, 0, 0, 0, 0, 0, 0])
        self.leads([10 ** 40, -10 ** 40], [-10 ** 41, 10 ** 41])

    def test_unlike_lengths(self):
        for one, other in (([1], [1, 0]), ([1, 0], [1]), ([0], [0, 0]), ([1, 2, 3], [3, 3]), ([1] * 8, [1] * 7)):
            self.refused("NotAlike", self.ask, one, other)

    def test_unlike_sums(self):
        for one, other in (([1], [2]), ([1, 2], [3, 1]), ([1, 1], [1, 2]), ([5, 0], [3, 3]), ([0, 0], [0, -1]),
                           ([GREAT, 0], [GREAT, 1])):
            self.refused("NotAlike", self.ask, one, other)

    def test_told_at_once(self):
        numbers = Numbers(11)
        for each in range(20):
            self.told_at_once(200000, self.ask, *numbers.two_rows(8, SMALL, GREAT, 30))
