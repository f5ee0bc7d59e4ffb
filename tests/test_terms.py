import fractions
import itertools
import math
import unittest

from evenmix.terms import least_terms
from helper import GREAT, NO_BOTTOMS, SMALL, MixCase


class LeastTerms(MixCase):
    def holds(self, table, bottom):
        least, below = self.told(least_terms, table, bottom)
        self.assertGreaterEqual(below, 1)
        self.assertEqual(math.gcd(below, *[cell for row in least for cell in row]), 1)
        fractions_of = [[fractions.Fraction(cell, bottom) for cell in row] for row in table]
        self.assertEqual([[fractions.Fraction(cell, below) for cell in row] for row in least], fractions_of)

    def test_told_as_a_tuple(self):
        answer = self.told(least_terms, [[2, 4], [6, 0]], 8)
        self.assertIsInstance(answer, tuple)
        self.assertEqual(answer, ([[1, 2], [3, 0]], 4))

    def test_what_is_least_stays(self):
        self.assertEqual(self.told(least_terms, [[3, 2]], 6), ([[3, 2]], 6))
        self.assertEqual(self.told(least_terms, [[2, 4], [6, 9]], 6), ([[2, 4], [6, 9]], 6))
        self.assertEqual(self.told(least_terms, [[2, 4]], 1), ([[2, 4]], 1))

    def test_a_divisor_of_the_cells_alone_or_of_some_cells_is_none(self):
        self.assertEqual(self.told(least_terms, [[10, 20]], 3), ([[10, 20]], 3))
        self.assertEqual(self.told(least_terms, [[6, 10, 15]], 30), ([[6, 10, 15]], 30))

    def test_noughts(self):
        for bottom in (1, 2, 12, GREAT):
            self.assertEqual(self.told(least_terms, [[0]], bottom), ([[0]], 1))
            self.assertEqual(self.told(least_terms, [[0, 0, 0], [0, 0, 0]], bottom), ([[0, 0, 0], [0, 0, 0]], 1))

    def test_noughts_beside_others(self):
        self.assertEqual(self.told(least_terms, [[0, 4], [0, 0]], 6), ([[0, 2], [0, 0]], 3))

    def test_no_bottom_handed_in(self):
        self.assertEqual(self.told(least_terms, [[4, -6], [0, 8]]), ([[4, -6], [0, 8]], 1))
        self.assertEqual(self.told(least_terms, [[0]]), ([[0]], 1))

    def test_below_nought(self):
        self.assertEqual(self.told(least_terms, [[-4]], 6), ([[-2]], 3))
        self.assertEqual(self.told(least_terms, [[-6, 4], [-2, -8]], 10), ([[-3, 2], [-1, -4]], 5))
        self.assertEqual(self.told(least_terms, [[-7]], 7), ([[-1]], 1))
        self.assertEqual(self.told(least_terms, [[-7]], 4), ([[-7]], 4))

    def test_whole_ones(self):
        self.assertEqual(self.told(least_terms, [[12, -24]], 12), ([[1, -2]], 1))

    def test_thirty_figures(self):
        self.assertEqual(self.told(least_terms, [[GREAT, SMALL]], GREAT), ([[1, -1]], 1))
        self.assertEqual(self.told(least_terms, [[2 * 10 ** 29], [-4 * 10 ** 29]], 6 * 10 ** 29), ([[1], [-2]], 3))
        self.assertEqual(self.told(least_terms, [[GREAT]], GREAT - 1), ([[GREAT]], GREAT - 1))

    def test_eight_by_eight(self):
        table = [[6 * (row - column) for column in range(8)] for row in range(8)]
        self.assertEqual(self.told(least_terms, table, 9), ([[2 * (r - c) for c in range(8)] for r in range(8)], 3))
        table[7][7] = 1
        self.assertEqual(self.told(least_terms, table, 9), (table, 9))

    def test_all_small_ones(self):
        for first, second, bottom in itertools.product(range(-6, 7), range(-6, 7), range(1, 13)):
            self.holds([[first, second]], bottom)
            self.holds([[first], [second]], bottom)

    def test_no_bottom(self):
        for bottom in NO_BOTTOMS:
            self.refused("NoBottom", least_terms, [[2, 4]], bottom)
            self.refused("NoBottom", least_terms, [[0]], bottom)


if __name__ == "__main__":
    unittest.main()
