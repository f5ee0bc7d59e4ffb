import itertools
import unittest

from evenmix.fates import fate_of
from helper import GREAT, SMALL, MixCase, Numbers, ones_by_sums, sums_by_hand


class FateOf(MixCase):
    def holds(self, rows, columns, cell):
        """What is told bears itself out: no two fates can both be."""
        answer = self.told(fate_of, rows, columns, cell)
        self.assertIsInstance(answer, tuple)
        self.assertEqual(len(answer), 3)
        row, column = cell
        low = [[0] * len(columns) for each in rows]
        high = [[1] * len(columns) for each in rows]
        if answer[0] == "free":
            for table, mark in ((answer[1], 0), (answer[2], 1)):
                self.assertOnes(table, rows, columns)
                self.assertEqual(table[row][column], mark)
            return "free"
        if answer[0] == "zero":
            low[row][column] = 1
        else:
            self.assertEqual(answer[0], "one")
            high[row][column] = 0
        self.assertBars(answer[1], answer[2], rows, columns, low, high)
        return answer[0]

    def test_one_cell(self):
        self.assertEqual(self.holds([0], [0], (0, 0)), "zero")
        self.assertEqual(self.holds([1], [1], (0, 0)), "one")

    def test_all_three_fates(self):
        self.assertEqual(self.holds([1, 1], [1, 1], (0, 0)), "free")
        self.assertEqual(self.holds([2, 1], [2, 1], (0, 0)), "one")
        self.assertEqual(self.holds([2, 1], [2, 1], (1, 1)), "zero")
        fates = [[self.holds([3, 1, 1], [2, 2, 1], (row, column)) for column in range(3)] for row in range(3)]
        self.assertEqual(fates, [["one", "one", "one"], ["free", "free", "zero"], ["free", "free", "zero"]])

    def test_all_small_ones(self):
        for height, width in itertools.product((1, 2, 3), repeat=2):
            for (rows, columns), tables in ones_by_sums(height, width).items():
                for row, column in itertools.product(range(height), range(width)):
                    marks = {table[row][column] for table in tables}
                    fate = "free" if len(marks) == 2 else "one" if 1 in marks else "zero"
                    self.assertEqual(self.holds(list(rows), list(columns), (row, column)), fate)

    def test_up_to_eight(self):
        numbers = Numbers(70)
        kinds = []
        for height, width in itertools.product((2, 5, 8), repeat=2):
            for each in range(4):
                table = [[1 if number > row else 0 for number in numbers.row(width, 0, height)]
                         for row in range(height)]
                rows, columns = sums_by_hand(table)
                for row, column in itertools.product(range(height), range(width)):
                    kinds.append(self.holds(rows, columns, (row, column)))
        for kind in ("free", "zero", "one"):
            self.assertGreater(kinds.count(kind), 20)

    def test_eight_of_a_single_table(self):
        stairs = [[1 if column <= row else 0 for column in range(8)] for row in range(8)]
        rows, columns = sums_by_hand(stairs)
        for row, column in itertools.product(range(8), repeat=2):
            self.assertEqual(self.holds(rows, columns, (row, column)), "one" if stairs[row][column] else "zero")

    def test_cells_outside(self):
        for cell in ((-1, 0), (0, -1), (-2, -2), (-1, -1), (2, 0), (0, 3), (2, 3), (5, 5), (1, 3), (2, 2), (GREAT, 0),
                     (0, GREAT), (SMALL, 0), (0, SMALL)):
            self.refused("NoPlace", fate_of, [1, 1], [1, 1, 0], cell)
        for cell in ((0, 1), (1, 0), (-1, 0), (0, -1)):
            self.refused("NoPlace", fate_of, [1], [1], cell)
        for cell in ((8, 0), (0, 8), (8, 8), (-8, 0)):
            self.refused("NoPlace", fate_of, [4] * 8, [4] * 8, cell)

    def test_sums_without_a_table(self):
        for rows, columns in (([2], [2]), ([1], [0]), ([0], [1]), ([3, 0], [2, 1]), ([2, 1], [3, 0]), ([1, 1], [1, 0]),
                              ([2, 2, 0, 0], [3, 1, 0, 0]), ([GREAT, 0], [GREAT, 0]), ([8] * 7 + [7], [8] * 8)):
            for row, column in itertools.product(range(len(rows)), range(len(columns))):
                self.refused("NoSums", fate_of, rows, columns, (row, column))

    def test_both_at_once(self):
        for cell in ((-1, 0), (0, -1), (2, 0), (0, 2), (2, 2), (-3, 5)):
            self.refused("NoPlace", fate_of, [3, 0], [2, 1], cell)
            self.refused("NoPlace", fate_of, [1, 1], [1, 0], cell)

    def test_all_small_sums_without_a_table(self):
        tables = ones_by_sums(2, 2)
        for rows in itertools.product(range(4), repeat=2):
            for columns in itertools.product(range(4), repeat=2):
                if (rows, columns) not in tables:
                    self.refused("NoSums", fate_of, list(rows), list(columns), (1, 0))
                    self.refused("NoPlace", fate_of, list(rows), list(columns), (1, 2))

    def test_beyond_eight_nothing_is_refused(self):
        self.assertEqual(self.holds([5] * 9, [5] * 9, (8, 8)), "free")

    def test_told_at_once(self):
        for cell in itertools.product(range(8), repeat=2):
            self.told_at_once(200000, fate_of, [4] * 8, [4] * 8, cell)


if __name__ == "__main__":
    unittest.main()
