"""Points 1 to 3: what the parts of the program say of each other."""

import itertools
import unittest

from evenmix.bounds import table_between
from evenmix.counts import count_of, number_of, ones_at, shares_of
from evenmix.errors import NoNumber, NoSums
from evenmix.fates import fate_of
from evenmix.leads import lead_to
from evenmix.mixes import is_even, mixture_of
from evenmix.ones import heap_of, ones_with
from evenmix.papers import (
    BarPaper, CutPaper, LeadPaper, MixPaper, PairPaper, RoundPaper, StepPaper, SumPaper, SwapPaper,
)
from evenmix.rounds import rounded_table
from evenmix.rows import bar_of
from evenmix.steps import steps_to
from evenmix.swaps import swaps_between
from evenmix.terms import least_terms
from evenmix.texts import read_table, show_table
from helper import GREAT, SMALL, MixCase, Numbers, all_ones, sums_by_hand


class Whole(MixCase):
    def test_even_tables_are_mixtures(self):
        numbers = Numbers(120)
        for length, dealings, high in itertools.product(range(1, 9), (1, 3, 40), (1, GREAT // 40)):
            table = numbers.even_table(length, dealings, high)
            pairs = self.told(mixture_of, table)
            self.assertTrue(MixPaper(table, pairs).holds())
            self.assertLessEqual(len(pairs), (length - 1) * (length - 1) + 1)
            self.assertEqual(len({tuple(dealing) for parts, dealing in pairs}), len(pairs))
            whole = rounded_table(table, sum(table[0]))
            self.assertTrue(RoundPaper(table, sum(table[0]), whole).holds())
            self.assertTrue(SumPaper([1] * length, [1] * length, whole).holds())
            self.assertTrue(is_even(whole))

    def test_steps_and_a_table_or_a_bar(self):
        numbers = Numbers(121)
        kinds = []
        for length, high in itertools.product(range(1, 9), (3, GREAT)):
            for each in range(4):
                one, other = numbers.two_rows(length, -high, high, 3 * each)
                kinds.append(self.led_or_barred(one, other))
                kinds.append(self.led_or_barred(other, one))
        self.assertGreater(min(kinds.count("steps"), kinds.count("bar")), 20)

    def led_or_barred(self, one, other):
        steps, lead = self.told(steps_to, one, other), self.told(lead_to, one, other)
        barred = [k for k in range(1, len(one) + 1) if BarPaper(one, other, k).holds()]
        if steps[0] == "bar":
            self.assertEqual((steps, lead), (("bar", barred[0]), ("bar", barred[0])))
        else:
            self.assertEqual((steps[0], lead[0], barred), ("steps", "table", []))
            self.assertLessEqual(len(steps[1]), 2 * len(one) - 2)
            pair = PairPaper(StepPaper(one, other, steps[1]), LeadPaper(one, other, lead[1]))
            self.assertTrue(PairPaper(pair, MixPaper(lead[1], mixture_of(lead[1]))).holds())
        return steps[0]

    def test_tables_of_ones_by_five_roads(self):
        """Whether there is one: asked for, by the heap, by the count, between bounds, by the fate of a cell."""
        kinds = []
        for rows in itertools.product(range(4), repeat=3):
            for columns in itertools.product(range(3), repeat=3):
                kinds.append(self.by_five_roads(list(rows), list(columns)))
        numbers = Numbers(122)
        for height, width in itertools.product((1, 2, 4, 5), repeat=2):
            for each in range(6):
                rows, columns = sums_by_hand(numbers.table(height, width, 0, 1))
                kinds.append(self.by_five_roads(rows, columns))
                kinds.append(self.by_five_roads(rows, numbers.row(width, 0, height)))
        self.assertGreater(min(kinds.count(True), kinds.count(False)), 50)

    def by_five_roads(self, rows, columns):
        told = ones_with(rows, columns)
        there = told[0] == "table"
        self.assertEqual(count_of(rows, columns) > 0, there)
        heap = heap_of(columns, len(rows))
        fits = sum(rows) == sum(columns) and max(columns) <= len(rows)
        self.assertEqual(fits and bar_of(rows, heap) is None, there)
        low, high = [[0] * len(columns) for row in rows], [[1] * len(columns) for row in rows]
        between = table_between(rows, columns, low, high)
        self.assertEqual(between[0] == "table", there)
        if there:
            self.assertTrue(PairPaper(SumPaper(rows, columns, told[1]), SumPaper(rows, columns, between[1])).holds())
        elif between[0] == "cut":
            self.assertTrue(CutPaper(rows, columns, low, high, between[1], between[2]).holds())
        else:
            self.assertEqual(between, ("unlike", sum(rows), sum(columns)))
        self.fates_as_shares(rows, columns, there)
        return there

    def fates_as_shares(self, rows, columns, there):
        many, shares = count_of(rows, columns), shares_of(rows, columns)
        for row, column in itertools.product(range(len(rows)), range(len(columns))):
            if not there:
                with self.assertRaises(NoSums):
                    fate_of(rows, columns, (row, column))
                self.assertEqual(shares[row][column], 0)
                continue
            fate = fate_of(rows, columns, (row, column))
            share = shares[row][column]
            self.assertEqual(fate[0], "zero" if share == 0 else "one" if share == many else "free")
            if fate[0] == "free":
                self.assertNotEqual(number_of(fate[1]), number_of(fate[2]))

    def test_numbers_and_tables_tell_each_other(self):
        for height, width in ((1, 1), (2, 3), (3, 3), (4, 2)):
            for table in all_ones(height, width):
                rows, columns = sums_by_hand(table)
                self.assertEqual(ones_at(rows, columns, number_of(table)), table)
        for rows, columns in (([2, 1, 1], [1, 2, 1]), ([2] * 4, [2] * 4), ([3, 1, 2, 2, 1], [2, 2, 1, 2, 2])):
            many = count_of(rows, columns)
            tables = [ones_at(rows, columns, number) for number in range(many)]
            self.assertEqual([number_of(table) for table in tables], list(range(many)))
            self.assertEqual(tables, sorted(tables))
            shares = [[sum(cells) for cells in zip(*lines)] for lines in zip(*tables)]
            self.assertEqual(shares_of(rows, columns), shares)
            with self.assertRaises(NoNumber):
                ones_at(rows, columns, many)

    def test_swaps_between_all_tables_of_some_sums(self):
        for rows, columns in (([1, 1, 1], [1, 1, 1]), ([2, 1, 2], [1, 2, 2]), ([2, 2, 2], [2, 2, 1, 1])):
            tables = [ones_at(rows, columns, number) for number in range(count_of(rows, columns))]
            for one, other in itertools.product(tables, repeat=2):
                swaps = self.told(swaps_between, one, other)
                self.assertTrue(SwapPaper(one, other, swaps).holds())
                moved = sum(first == 1 and second == 0 for first, second in zip(sum(one, []), sum(other, [])))
                self.assertTrue(len(swaps) < moved or (moved == 0 and swaps == []))

    def test_a_table_between_bounds_or_a_cut_never_both(self):
        numbers = Numbers(123)
        kinds = []
        for height, width, high in itertools.product((1, 2, 3), (1, 2, 3), (1, 4)):
            for each in range(8):
                low = numbers.table(height, width, -2, 1)
                top = [[cell + numbers.pick(0, high) for cell in row] for row in low]
                rows, columns = sums_by_hand([[numbers.pick(cell, cell + high) for cell in row] for row in low])
                told = table_between(rows, columns, low, top)
                kinds.append(told[0])
                barred = [cut for cut in self.cuts(height, width) if CutPaper(rows, columns, low, top, *cut).holds()]
                if told[0] == "table":
                    self.assertEqual(barred, [])
                    self.assertEqual(sums_by_hand(told[1]), (rows, columns))
                else:
                    self.assertIn((told[1], told[2]), barred)
        self.assertGreater(min(kinds.count("table"), kinds.count("cut")), 15)

    def cuts(self, height, width):
        for inside in itertools.product((False, True), repeat=height + width):
            yield ([row for row in range(height) if inside[row]],
                   [column for column in range(width) if inside[height + column]])

    def test_rounded_tables(self):
        numbers = Numbers(124)
        for height, width, bottom in itertools.product((1, 3, 8), (1, 4, 8), (1, 2, 12, 10 ** 16 - 63, GREAT)):
            table = numbers.table(height, width, SMALL, GREAT)
            whole = rounded_table(table, bottom)
            self.assertTrue(RoundPaper(table, bottom, whole).holds())
            # In least terms the fractions are the same, so what rounds the one rounds the other.
            self.assertTrue(RoundPaper(*least_terms(table, bottom), whole).holds())
            self.assertTrue(RoundPaper(*read_table(show_table(table, bottom)), whole).holds())


if __name__ == "__main__":
    unittest.main()
