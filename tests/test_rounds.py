import itertools
import unittest

from evenmix.leads import lead_to
from evenmix.rounds import rounded_table
from helper import GREAT, NO_BOTTOMS, SMALL, MixCase, Numbers, rounded_by_hand

SIXTEEN = 10 ** 16 - 63
THIRTY = 10 ** 30 - 33
BOTTOMS = (1, 2, 12, 10 ** 15, SIXTEEN, 10 ** 29, THIRTY, GREAT)


class RoundedTable(MixCase):
    def holds(self, table, bottom):
        whole = self.told(rounded_table, table, bottom)
        self.assertIsInstance(whole, list)
        self.assertEqual([type(row) for row in whole], [list] * len(table))
        self.assertEqual([len(row) for row in whole], [len(row) for row in table])
        self.assertTrue(rounded_by_hand(table, bottom, whole), (table, bottom, whole))
        return whole

    def test_one_cell(self):
        for bottom in BOTTOMS:
            for cell in (0, 1, -1, 5, -5, bottom - 1, bottom, bottom + 1, -bottom, 1 - bottom, 7 * bottom,
                         bottom // 2, bottom // 2 + 1, bottom // 2 - 1, -(bottom // 2), GREAT, SMALL):
                whole = self.holds([[cell]], bottom)
                self.assertIn(whole[0][0], (cell // bottom, -(-cell // bottom)))

    def test_what_is_whole_stays(self):
        table = [[3, -4, 0], [7, 0, -1]]
        self.assertEqual(self.holds(table, 1), table)
        self.assertEqual(self.holds([[3 * 12, -4 * 12, 0], [7 * 12, 0, -12]], 12), table)
        self.assertEqual(self.holds([[GREAT, 0], [SMALL, GREAT]], GREAT), [[1, 0], [-1, 1]])
        self.assertEqual(self.holds([[0] * 8] * 8, 5), [[0] * 8] * 8)

    def test_whole_cells_beside_others_stay(self):
        whole = self.holds([[4, 3], [1, -8]], 4)
        self.assertEqual((whole[0][0], whole[1][1]), (1, -2))

    def test_whole_sums_stay(self):
        for table in ([[1, 1], [1, 1]], [[1, 1, 0], [0, 1, 1], [1, 0, 1]], [[-1, 1], [3, -3]], [[5, -1], [-5, 3]]):
            whole = self.holds(table, 2)
            self.assertEqual([sum(row) * 2 for row in whole], [sum(row) for row in table])
            self.assertEqual([sum(column) * 2 for column in zip(*whole)], [sum(column) for column in zip(*table)])

    def test_the_sum_of_all_is_held_beside_those_of_rows_and_columns(self):
        # Each row and column alone could be 0 or 1; all together they are to be 1.
        for length in range(1, 9):
            whole = self.holds([[1] * length] * length, length * length)
            self.assertEqual(sum(map(sum, whole)), 1)

    def test_halves_and_the_numbers_beside_them(self):
        numbers = Numbers(80)
        for height, width, bottom in itertools.product((1, 2, 3, 8), (1, 2, 5, 8), (2, 12, 10 ** 16, 10 ** 29)):
            cells = [bottom // 2 + more + bottom * whole for more in (-1, 0, 1) for whole in (-2, -1, 0, 3)]
            self.holds([[cells[numbers.pick(0, 11)] for column in range(width)] for row in range(height)], bottom)

    def test_all_small_ones(self):
        for bottom in (1, 2, 3, 4):
            for cells in itertools.product(range(-2, 4), repeat=4):
                self.holds([list(cells[:2]), list(cells[2:])], bottom)
        for bottom, cells in itertools.product((2, 3, 5), itertools.product(range(-3, 3), repeat=3)):
            self.holds([list(cells)], bottom)
            self.holds([[cell] for cell in cells], bottom)

    def test_one_to_eight_rows_and_columns(self):
        numbers = Numbers(81)
        for height, width in itertools.product(range(1, 9), repeat=2):
            for bottom in BOTTOMS:
                self.holds(numbers.table(height, width, -3 * bottom, 3 * bottom), bottom)
            self.holds(numbers.table(height, width, SMALL, GREAT), numbers.pick(1, GREAT))
            self.holds(numbers.table(height, width, 0, 1), 2)
            self.holds(numbers.table(height, width, SMALL, -1), 7)

    def test_noughts_and_whole_ones_among_fractions(self):
        numbers = Numbers(82)
        for length, bottom in itertools.product(range(2, 9), (2, 12, THIRTY)):
            table = numbers.table(length, length, -bottom, bottom)
            for row in range(length):
                table[row][numbers.pick(0, length - 1)] = bottom * numbers.pick(-2, 2)
            self.holds(table, bottom)

    def single_ones(self, table):
        length = len(table)
        whole = self.holds(table, sum(table[0]))
        self.assertEqual([sorted(row) for row in whole], [[0] * (length - 1) + [1]] * length)
        self.assertEqual([sorted(column) for column in zip(*whole)], [[0] * (length - 1) + [1]] * length)
        for row, column in itertools.product(range(length), repeat=2):
            if table[row][column] == 0:
                self.assertEqual(whole[row][column], 0)

    def test_even_tables_above_their_bottom(self):
        self.single_ones([[1]])
        self.single_ones([[GREAT]])
        self.single_ones([[3, 4], [4, 3]])
        self.single_ones([[5, 0, 0], [0, 2, 3], [0, 3, 2]])
        numbers = Numbers(83)
        for length, dealings, high in itertools.product(range(1, 9), (1, 2, 5, 30), (1, 9, GREAT // 30)):
            self.single_ones(numbers.even_table(length, dealings, high))

    def test_a_told_table(self):
        numbers = Numbers(84)
        for length in (2, 5, 8):
            kind, table = lead_to(*numbers.two_rows(length, SMALL, GREAT, 30))
            self.assertEqual(kind, "table")
            self.single_ones(table)

    def test_no_bottom(self):
        for bottom in NO_BOTTOMS:
            self.refused("NoBottom", rounded_table, [[2, 4]], bottom)
            self.refused("NoBottom", rounded_table, [[0]], bottom)
            self.refused("NoBottom", rounded_table, [[1, 0], [0, 1]], bottom)

    def test_beyond_eight_nothing_is_refused(self):
        numbers = Numbers(85)
        self.holds(numbers.table(10, 9, -100, 100), 7)
        self.holds([[10 ** 40, -10 ** 41]], 10 ** 35 + 1)

    def test_told_at_once(self):
        numbers = Numbers(86)
        for each in range(10):
            self.told_at_once(200000, rounded_table, numbers.table(8, 8, SMALL, GREAT), numbers.pick(1, GREAT))
        self.told_at_once(200000, rounded_table, [[1] * 8] * 8, 2)
        self.told_at_once(200000, rounded_table, [[GREAT] * 8] * 8, 10 ** 29)


if __name__ == "__main__":
    unittest.main()
