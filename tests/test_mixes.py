import itertools
import unittest

from evenmix.mixes import is_even, mixture_of, told_by
from helper import GREAT, SMALL, MixCase, Numbers

EVEN = (
    [[1]],
    [[GREAT]],
    [[1, 0], [0, 1]],
    [[3, 4], [4, 3]],
    [[0, 5], [5, 0]],
    [[2, 0, 2], [1, 2, 1], [1, 2, 1]],
    [[GREAT - 1, 1], [1, GREAT - 1]],
    [[1] * 8] * 8,
)
NOT_EVEN = (
    [[0]], [[-1]], [[SMALL]],
    [[0, 0], [0, 0]], [[0] * 8] * 8,
    [[2, -1], [-1, 2]], [[-1, 2, 1], [2, -1, 1], [1, 1, 0]], [[-1, 0], [0, -1]],
    [[1, 0], [0, 2]], [[1, 0], [1, 0]], [[1, 1], [0, 0]], [[2, 1], [1, 1]], [[1, 2], [2, 2]],
    [[GREAT, 0], [0, GREAT - 1]],
    [[1], [1]], [[1, 1]], [[1, 0], [0, 1], [0, 0]], [[1, 1], [1, 1], [1, 1]], [[1, 1, 1], [1, 1, 1]],
    [[2, 2, 2], [3, 3, 0]], [[1] * 7] * 8, [[1] * 8] * 7,
)
NO_MIXTURES = (
    [],
    [(0, [0])], [(-1, [0])], [(SMALL, [0, 1])], [(1, [0, 1]), (0, [1, 0])], [(2, [0, 1]), (-1, [0, 1])],
    [(1, [0]), (1, [0, 1])], [(1, [0, 1]), (1, [0])], [(1, [0, 1, 2]), (1, [0, 1, 2]), (1, [1, 0])],
    [(1, [0, 0])], [(1, [0, 1, 1])], [(1, [1, 1])], [(1, [2, 0, 2])],
    [(1, [1])], [(1, [-1])], [(1, [1, 2])], [(1, [0, 2])], [(1, [0, -1])], [(1, [-2, -1])], [(1, [0, 1, 3])],
    [(1, [0, GREAT])], [(1, [0, 1]), (1, [0, 2])],
    [(1, [])], [(1, []), (1, [])], [(1, []), (1, [0])], [(1, [0]), (1, [])],
    [(1, list(range(9)))], [(1, list(range(8))), (1, list(range(9)))], [(1, list(range(20)))],
    [(1, list(range(1000)))], [(1, [0] * 1000)], [(1, [0, 1])] * 199 + [(0, [0, 1])],
)


def table_by_pairs(pairs):
    many = len(pairs[0][1])
    return [[sum(parts for parts, dealing in pairs if dealing[row] == column) for column in range(many)]
            for row in range(many)]


class IsEven(MixCase):
    def test_even(self):
        for table in EVEN:
            self.assertIs(self.told(is_even, table), True)

    def test_not_even(self):
        for table in NOT_EVEN:
            self.assertIs(self.told(is_even, table), False)

    def test_one_cell_off_by_one(self):
        numbers = Numbers(30)
        for many in range(2, 9):
            table = numbers.even_table(many, 60, 9)
            self.assertIs(self.told(is_even, table), True)
            for row, column, off in itertools.product(range(many), range(many), (1, -1)):
                table[row][column] += off
                self.assertIs(is_even(table), False)
                table[row][column] -= off

    def test_rows_alike_and_columns_not_and_the_other_way_round(self):
        self.assertIs(self.told(is_even, [[1, 2], [1, 2]]), False)
        self.assertIs(self.told(is_even, [[1, 1], [2, 2]]), False)

    def test_all_small_ones(self):
        for a, b, c, d in itertools.product(range(-1, 3), repeat=4):
            even = min(a, b, c, d) >= 0 and a + b == c + d == a + c == b + d >= 1
            self.assertIs(is_even([[a, b], [c, d]]), even)


class ToldBy(MixCase):
    def test_told(self):
        self.assertEqual(self.told(told_by, [(3, [0])]), [[3]])
        self.assertEqual(self.told(told_by, [(2, [1, 0])]), [[0, 2], [2, 0]])
        self.assertEqual(self.told(told_by, [(2, [1, 2, 0])]), [[0, 2, 0], [0, 0, 2], [2, 0, 0]])
        self.assertEqual(self.told(told_by, [(2, [1, 2, 0]), (5, [0, 2, 1])]), [[5, 2, 0], [0, 0, 7], [2, 5, 0]])

    def test_one_dealing_several_times(self):
        self.assertEqual(self.told(told_by, [(2, [1, 0]), (3, [1, 0]), (1, [0, 1]), (4, [1, 0])]), [[1, 9], [9, 1]])
        dealing = [1, 0]
        self.assertEqual(self.told(told_by, [(2, dealing), (3, dealing)]), [[0, 5], [5, 0]])

    def test_eight_and_two_hundred_and_thirty_figures(self):
        numbers = Numbers(31)
        for many, length in itertools.product(range(1, 9), (1, 7, 200)):
            pairs = [(numbers.pick(1, GREAT), numbers.order(many)) for each in range(length)]
            table = self.told(told_by, pairs)
            self.assertEqual(table, table_by_pairs(pairs))
            self.assertIs(is_even(table), True)
            self.assertEqual(sum(table[0]), sum(parts for parts, dealing in pairs))

    def test_beyond_two_hundred_nothing_is_refused(self):
        self.assertEqual(self.told(told_by, [(1, [1, 0])] * 210), [[0, 210], [210, 0]])

    def test_no_mixture(self):
        for pairs in NO_MIXTURES:
            self.refused("NoMix", told_by, pairs)


class MixtureOf(MixCase):
    def holds(self, table):
        pairs = self.told(mixture_of, table)
        self.assertIsInstance(pairs, list)
        self.assertLessEqual(len(pairs), (len(table) - 1) ** 2 + 1)
        for pair in pairs:
            self.assertIsInstance(pair, tuple)
            parts, dealing = pair
            self.assertIs(type(parts), int)
            self.assertGreaterEqual(parts, 1)
            self.assertIsInstance(dealing, list)
            self.assertTrue(all(type(number) is int for number in dealing))
            self.assertEqual(sorted(dealing), list(range(len(table))))
        self.assertEqual(len({tuple(dealing) for parts, dealing in pairs}), len(pairs), "a dealing twice")
        self.assertEqual(table_by_pairs(pairs), table)
        if len(table) <= 8:
            self.assertEqual(self.told(told_by, pairs), table)
        return pairs

    def test_even(self):
        for table in EVEN:
            self.holds(table)

    def test_just_one_mixture(self):
        self.assertEqual(self.told(mixture_of, [[7]]), [(7, [0])])
        self.assertEqual(self.told(mixture_of, [[0, 2], [2, 0]]), [(2, [1, 0])])
        self.assertEqual(sorted(self.told(mixture_of, [[3, 4], [4, 3]])), [(3, [0, 1]), (4, [1, 0])])

    def test_one_to_eight_rows_of_up_to_thirty_figures(self):
        numbers = Numbers(32)
        for many, figures in itertools.product(range(1, 9), (1, 2, 9, 28)):
            for dealings in (1, 2, many, 3 * many, 90):
                self.holds(numbers.even_table(many, dealings, 10 ** figures))

    def test_as_many_as_can_be(self):
        # No mixture of fewer than five dealings tells this table of three rows.
        pairs = [(16, [0, 1, 2]), (8, [1, 2, 0]), (4, [2, 0, 1]), (2, [0, 2, 1]), (1, [2, 1, 0])]
        self.assertEqual(len(self.holds(table_by_pairs(pairs))), 5)
        pairs = [(2 ** place, list(order)) for place, order in enumerate(itertools.permutations(range(4)))]
        self.holds(table_by_pairs(pairs))

    def test_all_small_ones_of_three(self):
        for a, b, c, d in itertools.product(range(4), repeat=4):
            for bottom in range(1, 6):
                table = [[a, b, bottom - a - b], [c, d, bottom - c - d],
                         [bottom - a - c, bottom - b - d, a + b + c + d - bottom]]
                if min(number for row in table for number in row) >= 0:
                    self.holds(table)
                else:
                    self.refused("NotEven", mixture_of, table)

    def test_beyond_eight_nothing_is_refused(self):
        self.holds(Numbers(33).even_table(9, 90, 1000))

    def test_not_even(self):
        for table in NOT_EVEN:
            self.refused("NotEven", mixture_of, table)

    def test_a_sum_off_by_one(self):
        numbers = Numbers(34)
        for many in range(2, 9):
            table = numbers.even_table(many, 60, 10 ** 28)
            for off in (1, -1):
                table[many // 2][many - 1] += off
                self.refused("NotEven", mixture_of, table)
                table[many // 2][many - 1] -= off

    def test_told_at_once(self):
        table = Numbers(35).even_table(8, 200, 10 ** 27)
        self.told_at_once(200000, mixture_of, table)


if __name__ == "__main__":
    unittest.main()
