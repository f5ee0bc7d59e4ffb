"""What the tests share: asking twice, and looking at what was handed in."""

import copy
import itertools
import sys
import unittest

from evenmix import errors

REFUSALS = (
    "NoTable", "NoBottom", "NotAlike", "NoStep", "NoMix", "NotEven", "NoSwap",
    "NoBounds", "NoPlace", "NoSums", "TooGreat", "NoNumber", "NoText",
)

# Thirty figures, above and below 0.
GREAT = 10 ** 30 - 1
SMALL = -GREAT


def lists_in(thing, seen=None):
    """All lists within a thing, itself too, one entry for each place where one stands."""
    seen = [] if seen is None else seen
    if isinstance(thing, list):
        known = any(thing is other for other in seen)
        seen.append(thing)
        if known:
            return seen
    if isinstance(thing, (list, tuple)):
        for part in thing:
            lists_in(part, seen)
    return seen


def places_in(thing):
    return [id(each) for each in lists_in(thing)]


def head_by_choice(row, many):
    return max(sum(some) for some in itertools.combinations(row, many))


def bar_by_choice(one, other):
    for many in range(1, len(one) + 1):
        if head_by_choice(one, many) > head_by_choice(other, many):
            return many
    return None


class Numbers:
    """Numbers that jump about, the same ones each time: from low to high, both let in."""

    def __init__(self, seed):
        self.state = seed

    def pick(self, low, high):
        many = 0
        for each in range(5):
            self.state = (self.state * 6364136223846793005 + 1442695040888963407) % 2 ** 64
            many = (many << 31) + (self.state >> 33)
        return low + many % (high - low + 1)

    def row(self, length, low, high):
        return [self.pick(low, high) for each in range(length)]

    def table(self, height, width, low, high):
        return [self.row(width, low, high) for each in range(height)]

    def order(self, length):
        places = list(range(length))
        return [places.pop(self.pick(0, len(places) - 1)) for each in range(length)]

    def even_table(self, length, dealings, high):
        table = [[0] * length for each in range(length)]
        for each in range(dealings):
            parts = self.pick(1, high)
            for row, column in enumerate(self.order(length)):
                table[row][column] += parts
        return table

    def two_rows(self, length, low, high, rounds):
        """A row, and one that is more even, made by steps and put into another order."""
        other = self.row(length, low, high)
        one = list(other)
        for each in range(rounds):
            giver, taker = self.pick(0, length - 1), self.pick(0, length - 1)
            if one[giver] > one[taker]:
                amount = self.pick(1, one[giver] - one[taker])
                one[giver] -= amount
                one[taker] += amount
        return [one[place] for place in self.order(length)], other


class MixCase(unittest.TestCase):
    def assertEven(self, table, length):
        self.assertEqual([len(row) for row in table], [length] * length)
        for number in [number for row in table for number in row]:
            self.assertIs(type(number), int)
            self.assertGreaterEqual(number, 0)
        sums = [sum(row) for row in table] + [sum(column) for column in zip(*table)]
        self.assertEqual(len(set(sums)), 1, table)
        self.assertGreaterEqual(sums[0], 1)

    def assertRising(self, some, many):
        self.assertIsInstance(some, list)
        self.assertEqual(some, [number for number in range(many) if number in some])
        self.assertTrue(all(type(number) is int for number in some))

    def told_at_once(self, lines, ask, *things):
        """The answer, for which no more than so many lines are walked: counted, as a clock would judge the machine."""
        left = [lines]

        def count(frame, event, argument):
            left[0] -= 1
            if left[0] < 0:
                raise AssertionError("too long")
            return count

        before = sys.gettrace()
        sys.settrace(count)
        try:
            return ask(*things)
        finally:
            sys.settrace(before)

    def told(self, ask, *things):
        """The answer; on the way, what point 2 says of all functions is held."""
        words, places = repr(things), places_in(things)
        first = ask(*things)
        kept = copy.deepcopy(first)
        second = ask(*things)
        self.assertEqual(repr(things), words, "handed in, and changed")
        self.assertEqual(places_in(things), places, "handed in, and exchanged")
        self.assertEqual(repr(second), repr(kept))
        told = places_in(first) + places_in(second)
        self.assertEqual(len(told), len(set(told)), "a list was told in two places")
        self.assertFalse(set(told) & set(places), "what was handed in was told")
        for each in lists_in(first):
            each.append("changed by whoever asked")
        self.assertEqual(repr(second), repr(kept))
        self.assertEqual(repr(things), words)
        self.assertEqual(repr(ask(*things)), repr(kept))
        return kept

    def refused(self, name, ask, *things):
        words, places = repr(things), places_in(things)
        with self.assertRaises(ValueError, msg=words) as caught:
            ask(*things)
        self.assertIs(type(caught.exception), getattr(errors, name), words)
        self.assertIsInstance(caught.exception, errors.MixError)
        for other in REFUSALS:
            if other != name:
                self.assertNotIsInstance(caught.exception, getattr(errors, other))
        self.assertEqual(repr(things), words, "refused, and changed")
        self.assertEqual(places_in(things), places, "refused, and exchanged")
