import decimal
import fractions
import itertools
import unittest

from evenmix.tables import sums_of_columns, sums_of_rows, table_of, times_row, turned_table
from helper import GREAT, SMALL, MixCase

EIGHT = [[10 * row + column for column in range(8)] for row in range(8)]
TABLES = (
    [[0]],
    [[-5]],
    [[1, 2, 3]],
    [[1], [-2], [3]],
    [[1, 2, 3], [4, 5, 6]],
    [[0, 0], [0, 0], [0, 0]],
    [[GREAT, SMALL], [SMALL, SMALL], [0, GREAT]],
    [[7, 7, 7, 7, 7, 7, 7, 7]],
    [[1], [2], [3], [4], [5], [6], [7], [8]],
    EIGHT,
)
NO_NUMBERS = (
    True, False, None, "", "1", b"1", 1.0, 0.0, float("nan"), 1j, fractions.Fraction(1), decimal.Decimal(1),
    (), (1,), [], [1], [[1]], {}, {1: 1}, {1}, range(1), object(), int, len,
)
NO_LISTS = (
    True, False, None, 0, 1, 12, "", "1", "12", b"12", 1.5, (), (1, 2), ([1, 2], [3, 4]), ((1, 2), (3, 4)),
    {}, {0: 1, 1: 2}, {1, 2}, frozenset([1, 2]), range(2), object(), list, iter([1, 2]),
)


class TableOf(MixCase):
    def test_same_numbers(self):
        for table in TABLES:
            self.assertEqual(self.told(table_of, table), table)

    def test_all_sizes_from_one_to_eight(self):
        for height, width in itertools.product(range(1, 9), repeat=2):
            table = [[row - column for column in range(width)] for row in range(height)]
            self.assertEqual(self.told(table_of, table), table)

    def test_one_row_standing_in_several_places_is_told_as_several(self):
        row = [1, 2]
        answer = table_of([row, row])
        answer[0][0] = 5
        self.assertEqual(answer, [[5, 2], [1, 2]])
        self.assertEqual(row, [1, 2])

    def test_more_than_thirty_figures_are_no_ground_to_refuse(self):
        self.assertEqual(self.told(table_of, [[10 ** 30, -10 ** 45]]), [[10 ** 30, -10 ** 45]])

    def test_too_many_or_none(self):
        for things in ([], [[]], [[], []], [[1], []], [[], [1]], [[1]] * 9, [[]] * 9, [[1] * 9], [[1] * 9] * 9,
                       [[1] * 8] * 9, [[1] * 9] * 8, [[1] * 8] * 7 + [[1] * 9], [[1]] * 100):
            self.refused("NoTable", table_of, things)

    def test_rows_of_unlike_lengths(self):
        for things in ([[1], [1, 2]], [[1, 2], [1]], [[1, 2], [3, 4], [5]], [[1, 2], [3, 4, 5], [6, 7]],
                       [[1] * 8] * 7 + [[1] * 7]):
            self.refused("NoTable", table_of, things)

    def test_no_number_in_the_place_of_a_number(self):
        for thing, height, width in itertools.product(NO_NUMBERS, (1, 2), (1, 3)):
            for row, column in itertools.product(range(height), range(width)):
                things = [[1] * width for each in range(height)]
                things[row][column] = thing
                self.refused("NoTable", table_of, things)

    def test_no_row_in_the_place_of_a_row(self):
        for thing, height in itertools.product(NO_LISTS, (1, 2, 3)):
            for place in range(height):
                things = [[1, 2] for each in range(height)]
                things[place] = thing
                self.refused("NoTable", table_of, things)

    def test_no_list_in_the_place_of_the_table(self):
        for thing in NO_LISTS:
            self.refused("NoTable", table_of, thing)

    def test_a_row_alone_is_no_table(self):
        self.refused("NoTable", table_of, [1, 2])
        self.refused("NoTable", table_of, [[[1, 2]]])

    def test_a_list_within_itself(self):
        things = []
        things.append(things)
        self.refused("NoTable", table_of, things)


class Sums(MixCase):
    def test_sums(self):
        table = [[1, 2, 3], [4, 5, -6]]
        self.assertEqual(self.told(sums_of_rows, table), [6, 3])
        self.assertEqual(self.told(sums_of_columns, table), [5, 7, -3])

    def test_sums_of_one_row_and_of_one_column(self):
        self.assertEqual(self.told(sums_of_rows, [[4, -1, 2]]), [5])
        self.assertEqual(self.told(sums_of_columns, [[4, -1, 2]]), [4, -1, 2])
        self.assertEqual(self.told(sums_of_rows, [[4], [-1], [2]]), [4, -1, 2])
        self.assertEqual(self.told(sums_of_columns, [[4], [-1], [2]]), [5])

    def test_sums_of_eight(self):
        self.assertEqual(self.told(sums_of_rows, EIGHT), [80 * row + 28 for row in range(8)])
        self.assertEqual(self.told(sums_of_columns, EIGHT), [280 + 8 * column for column in range(8)])

    def test_sums_of_thirty_figures(self):
        table = [[GREAT, 1], [GREAT, SMALL], [GREAT, SMALL]]
        self.assertEqual(self.told(sums_of_rows, table), [10 ** 30, 0, 0])
        self.assertEqual(self.told(sums_of_columns, table), [3 * 10 ** 30 - 3, 3 - 2 * 10 ** 30])

    def test_beyond_eight_nothing_is_refused(self):
        self.assertEqual(self.told(sums_of_rows, [[1] * 10] * 9), [10] * 9)
        self.assertEqual(self.told(sums_of_columns, [[1] * 10] * 9), [9] * 10)


class Turned(MixCase):
    def test_turned(self):
        self.assertEqual(self.told(turned_table, [[1, 2, 3], [4, 5, 6]]), [[1, 4], [2, 5], [3, 6]])
        self.assertEqual(self.told(turned_table, [[1, 2], [3, 4]]), [[1, 3], [2, 4]])
        self.assertEqual(self.told(turned_table, [[1, -2]]), [[1], [-2]])
        self.assertEqual(self.told(turned_table, [[1], [-2]]), [[1, -2]])
        self.assertEqual(self.told(turned_table, [[GREAT]]), [[GREAT]])

    def test_turned_cell_by_cell_and_back(self):
        for table in TABLES:
            turned = self.told(turned_table, table)
            self.assertEqual((len(turned), len(turned[0])), (len(table[0]), len(table)))
            for row, column in itertools.product(range(len(table)), range(len(table[0]))):
                self.assertEqual(turned[column][row], table[row][column])
            self.assertEqual(self.told(turned_table, turned), table)


class TimesRow(MixCase):
    def test_times_row(self):
        self.assertEqual(self.told(times_row, [[1, 2, 3], [4, 5, 6]], [1, 10, 100]), [321, 654])
        self.assertEqual(self.told(times_row, [[1, -2], [0, 3], [0, 0]], [-5, 7]), [-19, 21, 0])
        self.assertEqual(self.told(times_row, [[3], [-4]], [5]), [15, -20])
        self.assertEqual(self.told(times_row, [[3, -4]], [5, 6]), [-9])

    def test_the_plain_table_and_that_of_noughts(self):
        plain = [[1 if row == column else 0 for column in range(8)] for row in range(8)]
        row = [3, 1, -4, 1, 5, -9, GREAT, SMALL]
        self.assertEqual(self.told(times_row, plain, row), row)
        self.assertEqual(self.told(times_row, [[0] * 8] * 8, row), [0] * 8)

    def test_thirty_figures(self):
        self.assertEqual(self.told(times_row, [[GREAT, SMALL], [GREAT, 1]], [GREAT, GREAT]),
                         [0, GREAT * GREAT + GREAT])

    def test_a_row_of_ones_tells_the_sums(self):
        for table in TABLES:
            self.assertEqual(self.told(times_row, table, [1] * len(table[0])), sums_of_rows(table))


if __name__ == "__main__":
    unittest.main()
