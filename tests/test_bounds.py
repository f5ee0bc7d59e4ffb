import itertools
import unittest

from evenmix.bounds import table_between
from helper import GREAT, SMALL, MixCase, Numbers, sums_by_hand


def moved_about(numbers, rows, low, high):
    for each in range(3):
        giver, taker = numbers.pick(0, len(rows) - 1), numbers.pick(0, len(rows) - 1)
        amount = numbers.pick(low, high)
        rows[giver] -= amount
        rows[taker] += amount


class TableBetween(MixCase):
    def holds(self, rows, columns, low, high):
        """What is told bears itself out: a table and a cut can't both be."""
        answer = self.told(table_between, rows, columns, low, high)
        self.assertIsInstance(answer, tuple)
        if sum(rows) != sum(columns):
            self.assertEqual(answer, ("unlike", sum(rows), sum(columns)))
        elif answer[0] == "table":
            self.assertEqual(len(answer), 2)
            self.is_between(answer[1], low, high)
            self.assertEqual(sums_by_hand(answer[1]), (rows, columns))
        else:
            self.assertEqual((len(answer), answer[0]), (3, "cut"))
            self.assertBars(answer[1], answer[2], rows, columns, low, high)
        return answer

    def is_between(self, table, low, high):
        self.assertIsInstance(table, list)
        self.assertEqual([type(row) for row in table], [list] * len(low))
        self.assertEqual([len(row) for row in table], [len(row) for row in low])
        for row, column in itertools.product(range(len(low)), range(len(low[0]))):
            self.assertIs(type(table[row][column]), int)
            self.assertTrue(low[row][column] <= table[row][column] <= high[row][column], (table, low, high))

    def test_one_cell(self):
        self.assertEqual(self.told(table_between, [3], [3], [[1]], [[5]]), ("table", [[3]]))
        self.assertEqual(self.told(table_between, [1], [1], [[1]], [[5]]), ("table", [[1]]))
        self.assertEqual(self.told(table_between, [5], [5], [[1]], [[5]]), ("table", [[5]]))
        self.assertEqual(self.told(table_between, [-3], [-3], [[-3]], [[-3]]), ("table", [[-3]]))
        for number in (0, 6, -1, GREAT, SMALL):
            self.assertEqual(self.holds([number], [number], [[1]], [[5]])[0], "cut")
        self.assertEqual(self.told(table_between, [3], [4], [[1]], [[5]]), ("unlike", 3, 4))

    def test_a_table_there(self):
        self.assertEqual(self.holds([3, 4], [2, 5], [[0, 0], [0, 0]], [[2, 3], [2, 3]])[0], "table")
        self.assertEqual(self.holds([1, 1], [1, 1], [[0, 0], [0, 0]], [[0, 1], [1, 0]]), ("table", [[0, 1], [1, 0]]))
        self.assertEqual(self.holds([0, 0], [0, 0], [[-5, -5], [-5, -5]], [[5, -1], [5, 5]])[0], "table")
        self.assertEqual(self.holds([-4, 7, 0], [3], [[-9], [0], [-1]], [[9], [9], [9]]), ("table", [[-4], [7], [0]]))

    def test_a_cut_there(self):
        self.assertEqual(self.holds([2, 0], [1, 1], [[0, 0], [0, 0]], [[1, 0], [1, 1]])[0], "cut")
        self.assertEqual(self.holds([1, 1], [2, 0], [[0, 1], [0, 0]], [[2, 2], [2, 2]])[0], "cut")
        self.assertEqual(self.holds([1, 1], [2, 0], [[1, 0], [2, 0]], [[2, 2], [2, 2]])[0], "cut")
        self.assertEqual(self.holds([-1, 1], [0, 0], [[0, 0], [0, 0]], [[9, 9], [9, 9]])[0], "cut")
        self.assertEqual(self.holds([0, 0], [-1, 1], [[0, 0], [0, 0]], [[9, 9], [9, 9]])[0], "cut")
        self.assertEqual(self.holds([5, 5], [5, 5], [[0, 0], [0, 0]], [[2, 2], [2, 2]])[0], "cut")

    def test_filled_by_lowering_again(self):
        # Filled greedily, the first row takes the first column, which the others can't do without.
        low, high = [[0] * 3 for row in range(3)], [[1, 1, 0], [1, 0, 1], [1, 0, 0]]
        self.assertEqual(self.holds([1, 1, 1], [1, 1, 1], low, high), ("table", [[0, 1, 0], [0, 0, 1], [1, 0, 0]]))
        low, high = [[0] * 4 for row in range(4)], [[GREAT, GREAT, 0, 0], [0, GREAT, GREAT, 0], [0, 0, GREAT, GREAT],
                                                    [GREAT, 0, 0, 0]]
        self.assertEqual(self.holds([7] * 4, [7] * 4, low, high),
                         ("table", [[0, 7, 0, 0], [0, 0, 7, 0], [0, 0, 0, 7], [7, 0, 0, 0]]))

    def test_low_and_high_alike_in_all_cells(self):
        numbers = Numbers(60)
        for height, width in itertools.product((1, 2, 5, 8), repeat=2):
            table = numbers.table(height, width, SMALL, GREAT)
            rows, columns = sums_by_hand(table)
            self.assertEqual(self.holds(rows, columns, table, table), ("table", table))
            if height > 1:
                rows[0] += 1
                rows[1] -= 1
                self.assertEqual(self.holds(rows, columns, table, table)[0], "cut")

    def test_low_and_high_alike_in_a_cell(self):
        self.assertEqual(self.holds([2, 2], [2, 2], [[1, 0], [0, 0]], [[1, 2], [2, 2]]), ("table", [[1, 1], [1, 1]]))
        self.assertEqual(self.holds([2, 2], [2, 2], [[-7, -9], [-9, -9]], [[-7, 9], [9, 9]]),
                         ("table", [[-7, 9], [9, -7]]))
        self.assertEqual(self.holds([2, 2], [2, 2], [[-8, -9], [-9, -9]], [[-8, 9], [9, 9]])[0], "cut")

    def test_sums_that_are_unlike(self):
        for rows, columns in (([1, 2], [1, 1]), ([0, 0], [0, -1]), ([GREAT, GREAT], [GREAT, SMALL]), ([1, 0], [0, 0])):
            self.assertEqual(self.told(table_between, rows, columns, [[0, 0], [0, 0]], [[9, 9], [9, 9]]),
                             ("unlike", sum(rows), sum(columns)))
        self.assertEqual(self.told(table_between, [1, 2], [1, 3], [[7, 7], [7, 7]], [[7, 7], [7, 7]]),
                         ("unlike", 3, 4))

    def test_a_low_above_its_high(self):
        for height, width in ((1, 1), (1, 3), (3, 2), (8, 8)):
            for row, column in itertools.product(range(height), range(width)):
                low = [[0] * width for each in range(height)]
                high = [[1] * width for each in range(height)]
                low[row][column] = 2
                # There would be a table, a cut, or sums that are unlike: the bounds go ahead.
                self.refused("NoBounds", table_between, [0] * height, [0] * width, low, high)
                self.refused("NoBounds", table_between, [1] + [0] * (height - 1), [1] + [0] * (width - 1), low, high)
                self.refused("NoBounds", table_between, [1] * height, [9] * width, low, high)
        self.refused("NoBounds", table_between, [1], [1], [[2]], [[0]])
        self.refused("NoBounds", table_between, [GREAT], [GREAT], [[GREAT]], [[GREAT - 1]])
        self.refused("NoBounds", table_between, [0], [1], [[-3]], [[-4]])

    def test_all_small_ones(self):
        for bounds in itertools.product(((0, 0), (0, 1), (-1, 1), (1, 2)), repeat=4):
            low = [[bounds[0][0], bounds[1][0]], [bounds[2][0], bounds[3][0]]]
            high = [[bounds[0][1], bounds[1][1]], [bounds[2][1], bounds[3][1]]]
            cells = [range(bound[0], bound[1] + 1) for bound in bounds]
            there = {(a + b, c + d, a + c) for a, b, c, d in itertools.product(*cells)}
            for first, second, third in itertools.product(range(-1, 4), repeat=3):
                answer = table_between([first, second], [third, first + second - third], low, high)
                if (first, second, third) in there:
                    self.assertEqual(answer[0], "table")
                    self.is_between(answer[1], low, high)
                    self.assertEqual(sums_by_hand(answer[1]), ([first, second], [third, first + second - third]))
                else:
                    self.assertEqual(answer[0], "cut")
                    self.assertBars(answer[1], answer[2], [first, second], [third, first + second - third], low, high)

    def test_a_table_that_is_known_to_be_there(self):
        numbers = Numbers(61)
        for height, width in itertools.product((1, 2, 3, 5, 8), repeat=2):
            for span in (0, 1, 3, 10 ** 29):
                table = numbers.table(height, width, -10 ** 29, 10 ** 29)
                low = [[cell - numbers.pick(0, span) for cell in row] for row in table]
                high = [[cell + numbers.pick(0, span) for cell in row] for row in table]
                self.assertEqual(self.holds(*sums_by_hand(table), low, high)[0], "table")

    def test_tables_and_cuts_of_many_sizes(self):
        numbers = Numbers(62)
        kinds = []
        for each in range(600):
            height, width = numbers.pick(1, 8), numbers.pick(1, 8)
            span = (1, 2, 9, 10 ** 29)[each % 4]
            table = numbers.table(height, width, -span, span)
            low = [[cell - numbers.pick(0, span) for cell in row] for row in table]
            high = [[cell + numbers.pick(0, span) for cell in row] for row in table]
            rows, columns = sums_by_hand(table)
            moved_about(numbers, rows, 0, 2 * span)
            moved_about(numbers, columns, 0, 2 * span)
            kinds.append(self.holds(rows, columns, low, high)[0])
        self.assertGreater(kinds.count("table"), 100)
        self.assertGreater(kinds.count("cut"), 100)

    def test_beyond_the_bounds_nothing_is_refused(self):
        self.assertEqual(self.holds([20] * 9, [18] * 10, [[0] * 10 for row in range(9)],
                                    [[10 ** 40] * 10 for row in range(9)])[0], "table")

    def test_told_at_once(self):
        numbers = Numbers(63)
        for each in range(20):
            table = numbers.table(8, 8, 0, GREAT)
            rows, columns = sums_by_hand(table)
            high = [[min(2 * cell, GREAT) for cell in row] for row in table]
            low = [[0] * 8 for row in range(8)]
            self.told_at_once(200000, table_between, rows, columns, low, high)
            self.told_at_once(200000, table_between, rows, columns, [[SMALL] * 8 for row in range(8)], high)
            self.told_at_once(200000, table_between, rows, columns[::-1], low, high)

    def test_rounds_do_not_grow_with_the_numbers(self):
        # On longer ways than need be a single one could go to and fro through the middle cells, round by round.
        for many in (2, 4, 8):
            low = [[0] * many for row in range(many)]
            high = [[GREAT if abs(row - column) != 1 else 1 for column in range(many)] for row in range(many)]
            answer = self.told_at_once(50000, table_between, [GREAT] * many, [GREAT] * many, low, high)
            self.assertEqual(answer[0], "table")


if __name__ == "__main__":
    unittest.main()
