import itertools
import unittest

from evenmix.rows import bar_of, falling, heads_of
from helper import GREAT, SMALL, MixCase, bar_by_choice, head_by_choice


class Falling(MixCase):
    def test_falling(self):
        self.assertEqual(self.told(falling, [3, 1, 2]), [3, 2, 1])
        self.assertEqual(self.told(falling, [1, 2, 3]), [3, 2, 1])
        self.assertEqual(self.told(falling, [3, 2, 1]), [3, 2, 1])
        self.assertEqual(self.told(falling, [7]), [7])

    def test_equal_numbers_all_stay(self):
        self.assertEqual(self.told(falling, [1, 2, 1, 2, 1]), [2, 2, 1, 1, 1])
        self.assertEqual(self.told(falling, [4] * 8), [4] * 8)

    def test_below_nought_and_thirty_figures(self):
        self.assertEqual(self.told(falling, [-1, 0, -3, 2]), [2, 0, -1, -3])
        self.assertEqual(self.told(falling, [SMALL, GREAT - 1, 0, GREAT]), [GREAT, GREAT - 1, 0, SMALL])

    def test_beyond_eight_nothing_is_refused(self):
        self.assertEqual(self.told(falling, list(range(10))), list(range(9, -1, -1)))


class Heads(MixCase):
    def test_heads(self):
        self.assertEqual(self.told(heads_of, [3, 1, 2]), [3, 5, 6])
        self.assertEqual(self.told(heads_of, [1, 1, 4]), [4, 5, 6])
        self.assertEqual(self.told(heads_of, [2, 2, 2]), [2, 4, 6])
        self.assertEqual(self.told(heads_of, [7]), [7])
        self.assertEqual(self.told(heads_of, [0, 0]), [0, 0])

    def test_below_nought_and_thirty_figures(self):
        self.assertEqual(self.told(heads_of, [-2, -1, -3]), [-1, -3, -6])
        self.assertEqual(self.told(heads_of, [SMALL, GREAT, GREAT]), [GREAT, 2 * GREAT, GREAT])

    def test_eight(self):
        self.assertEqual(self.told(heads_of, [1, 8, 2, 7, 3, 6, 4, 5]), [8, 15, 21, 26, 30, 33, 35, 36])

    def test_all_small_ones_against_all_choices(self):
        for row in itertools.product(range(-2, 3), repeat=4):
            self.assertEqual(heads_of(list(row)), [head_by_choice(row, many) for many in range(1, 5)])


class Bar(MixCase):
    def test_more_even(self):
        for one, other in (([2, 2, 2], [3, 2, 1]), ([2, 2, 2], [0, 6, 0]), ([1, 2, 3], [3, 3, 0]),
                           ([0, 0], [1, -1]), ([-1, -1], [-3, 1])):
            self.assertIsNone(self.told(bar_of, one, other))
            self.assertIsNotNone(self.told(bar_of, other, one))

    def test_a_row_is_more_even_than_itself_in_any_order(self):
        for row in ([5], [1, 2, 3], [2, 2, 2], [-1, 0, -1], [GREAT, SMALL, 0], [8, 7, 6, 5, 4, 3, 2, 1]):
            self.assertIsNone(bar_of(row, row))
            self.assertIsNone(self.told(bar_of, row, list(row)))
            self.assertIsNone(self.told(bar_of, row, row[::-1]))
            self.assertIsNone(self.told(bar_of, sorted(row), row))

    def test_the_least_k_bars(self):
        self.assertEqual(self.told(bar_of, [3, 2, 1], [2, 2, 2]), 1)
        self.assertEqual(self.told(bar_of, [3, 3, 0], [3, 2, 1]), 2)
        self.assertEqual(self.told(bar_of, [3, 3, 0], [4, 1, 1]), 2)
        self.assertEqual(self.told(bar_of, [0, 4, 4, 4], [5, 4, 2, 1]), 3)
        self.assertEqual(self.told(bar_of, [1, 1, 1, 1, 1, 1, 1, -7], [1, 1, 1, 1, 1, 1, 0, -6]), 7)

    def test_neither_is_more_even(self):
        self.assertEqual(self.told(bar_of, [4, 1, 1], [3, 3, 0]), 1)
        self.assertEqual(self.told(bar_of, [3, 3, 0], [4, 1, 1]), 2)

    def test_thirty_figures(self):
        self.assertIsNone(self.told(bar_of, [GREAT - 1, 1 - GREAT], [SMALL, GREAT]))
        self.assertEqual(self.told(bar_of, [SMALL, GREAT], [GREAT - 1, 1 - GREAT]), 1)

    def test_all_small_ones_against_all_choices(self):
        for one, other in itertools.product(itertools.product(range(-1, 3), repeat=4), repeat=2):
            if sum(one) == sum(other):
                self.assertEqual(bar_of(list(one), list(other)), bar_by_choice(one, other))

    def test_unlike_lengths(self):
        for one, other in (([1], [1, 0]), ([1, 0], [1]), ([0], [0, 0]), ([1, 2, 3], [3, 3]), ([1] * 8, [1] * 7)):
            self.refused("NotAlike", bar_of, one, other)

    def test_unlike_sums(self):
        for one, other in (([1], [2]), ([2], [1]), ([1, 2], [3, 1]), ([1, 1], [1, 2]), ([5, 0], [3, 3]),
                           ([0, 0], [0, -1]), ([GREAT, 0], [GREAT, 1])):
            self.refused("NotAlike", bar_of, one, other)


if __name__ == "__main__":
    unittest.main()
