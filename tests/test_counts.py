import fractions
import itertools
import unittest

from evenmix.counts import count_of, number_of, ones_at, shares_of
from helper import GREAT, SMALL, MixCase, Numbers, ones_by_sums, sums_by_hand

NO_NUMBERS = (
    True, False, None, "", "0", "1", "one", b"0", 0.0, 1.0, 0.5, float("nan"), float("inf"), 0j,
    fractions.Fraction(0), fractions.Fraction(1), [], [0], [[0]], (), (0,), {}, {0: 0}, {0}, range(1), object(), int,
)

# Sums of more than five rows, of more than five columns, and of both; with tables, and without.
TOO_GREAT = (
    ([1] * 6, [6]), ([6], [1] * 6), ([0] * 6, [0]), ([0], [0] * 6), ([1] * 6, [2, 2, 2]), ([2, 2, 2], [1] * 6),
    ([1] * 6, [1] * 6), ([1] * 5, [1] * 5 + [0]), ([1] * 5 + [0], [1] * 5), ([3] * 8, [3] * 8), ([5] * 5, [5] * 6),
    ([GREAT] * 6, [0]), ([7], [0] * 7), ([0] * 9, [0] * 9), ([1, 2, 3, 4, 5], [9, 0, 0, 0, 0, 0]),
)


def all_sums(height, width):
    """All sums of rows and of columns that are at most one too great."""
    return itertools.product(itertools.product(range(width + 2), repeat=height),
                             itertools.product(range(height + 2), repeat=width))


class Counts(MixCase):
    def test_one_row_and_one_column(self):
        for row, column in itertools.product((0, 1, 2, 7, GREAT), repeat=2):
            many = 1 if row == column and row <= 1 else 0
            self.assertEqual(self.told(count_of, [row], [column]), many)
            self.assertEqual(self.told(shares_of, [row], [column]), [[row * many]])

    def test_all_small_ones(self):
        for height, width in itertools.product((1, 2, 3), repeat=2):
            if (height, width) == (3, 3):
                continue
            tables = ones_by_sums(height, width)
            for rows, columns in all_sums(height, width):
                self.counted(tables.get((rows, columns), []), list(rows), list(columns))

    def counted(self, tables, rows, columns):
        self.assertEqual(self.told(count_of, rows, columns), len(tables))
        shares = [[sum(table[row][column] for table in tables) for column in range(len(columns))]
                  for row in range(len(rows))]
        self.assertEqual(self.told(shares_of, rows, columns), shares)

    def test_all_of_three_and_of_four_that_have_tables(self):
        for height, width in ((3, 3), (2, 4), (4, 2), (3, 4), (1, 5), (5, 1), (2, 5), (5, 2)):
            for (rows, columns), tables in ones_by_sums(height, width).items():
                self.counted(tables, list(rows), list(columns))

    def test_five(self):
        for sums, many in (([0] * 5, 1), ([1] * 5, 120), ([2] * 5, 2040), ([3] * 5, 2040), ([4] * 5, 120), ([5] * 5, 1),
                           ([6] * 5, 0), ([1, 2, 3, 4, 5], 1), ([0, 1, 2, 3, 4], 1), ([5, 5, 1, 1, 1], 0)):
            self.assertEqual(self.told(count_of, sums, sums), many)
        self.assertEqual(self.told(count_of, [1, 2, 3, 4, 5], [5, 4, 3, 2, 1]), 1)
        self.assertEqual(self.told(count_of, [1] * 5, [5, 0, 0, 0, 0]), 1)
        self.assertEqual(self.told(count_of, [3], [1, 1, 0, 1, 0]), 1)
        self.assertEqual(self.told(count_of, [2, 2], [1, 1, 1, 1]), 6)

    def test_all_of_five_together(self):
        # Over all sums of columns, each row is chosen by itself: ten ways to have two ones, five to have one.
        for rows, ways in (([2, 3], 10 * 10), ([2, 1, 4], 10 * 5 * 5), ([5, 0, 3, 1], 10 * 5)):
            columns = itertools.product(range(len(rows) + 1), repeat=5)
            self.assertEqual(sum(count_of(rows, list(sums)) for sums in columns), ways)

    def test_unlike_sums(self):
        for rows, columns in (([1], [0]), ([0], [1]), ([1, 1], [1, 0]), ([2, 2], [2, 1, 0]), ([1] * 5, [1] * 4),
                              ([3] * 5, [4, 3, 3, 3, 3])):
            self.none(rows, columns)

    def test_sums_far_above_the_size(self):
        for rows, columns in (([GREAT], [GREAT]), ([6], [2, 2, 2]), ([2, 2, 2], [6]), ([GREAT] * 5, [GREAT] * 5),
                              ([GREAT, 0, 0, 0, 0], [0, 0, GREAT, 0, 0]), ([10 ** 12, 1], [1, 10 ** 12]),
                              ([0, 0, 0, 0, 5], [5, 0, 0, 0, 0])):
            self.none(rows, columns)

    def none(self, rows, columns):
        self.assertEqual(self.told(count_of, rows, columns), 0)
        self.assertEqual(self.told(shares_of, rows, columns), [[0] * len(columns) for row in rows])

    def test_shares_come_to_the_count_as_often_as_the_sums_tell(self):
        numbers = Numbers(90)
        for height, width in itertools.product(range(1, 6), repeat=2):
            for each in range(3):
                rows, columns = sums_by_hand(numbers.table(height, width, 0, 1))
                many = self.told(count_of, rows, columns)
                self.assertGreaterEqual(many, 1)
                shares = self.told(shares_of, rows, columns)
                self.assertEqual([len(line) for line in shares], [width] * height)
                goals = [many * row for row in rows], [many * column for column in columns]
                self.assertEqual(sums_by_hand(shares), goals)
                self.assertTrue(all(0 <= share <= many for line in shares for share in line))

    def test_shares_of_four(self):
        tables = ones_by_sums(4, 4)
        for rows, columns in (((2, 2, 2, 2), (2, 2, 2, 2)), ((1, 2, 3, 2), (2, 1, 4, 1)), ((1, 2, 3, 2), (2, 2, 3, 1)),
                              ((0, 4, 1, 2), (1, 2, 3, 1)), ((3, 3, 1, 1), (2, 2, 2, 2))):
            self.counted(tables.get((rows, columns), []), list(rows), list(columns))

    def test_too_great(self):
        for rows, columns in TOO_GREAT:
            self.refused("TooGreat", count_of, rows, columns)
            self.refused("TooGreat", shares_of, rows, columns)

    def test_told_at_once(self):
        for rows, columns in (([2] * 5, [2] * 5), ([3] * 5, [3] * 5), ([2, 3, 2, 3, 2], [3, 2, 2, 2, 3]),
                              ([GREAT] * 5, [GREAT] * 5), ([1, 2, 3, 2, 2], [3, 1, 2, 3, 1])):
            self.told_at_once(200000, count_of, rows, columns)
            self.told_at_once(200000, shares_of, rows, columns)


class OnesAt(MixCase):
    def there_and_back(self, rows, columns, tables):
        for number, table in enumerate(tables):
            self.assertEqual(self.told(ones_at, rows, columns, number), table)
            self.assertEqual(self.told(number_of, table), number)

    def test_in_order(self):
        self.assertEqual(self.told(ones_at, [1, 1], [1, 1], 0), [[0, 1], [1, 0]])
        self.assertEqual(self.told(ones_at, [1, 1], [1, 1], 1), [[1, 0], [0, 1]])
        self.assertEqual(self.told(number_of, [[1, 0], [0, 1]]), 1)
        self.assertEqual(self.told(number_of, [[1]]), 0)
        self.assertEqual(self.told(number_of, [[0]]), 0)

    def test_all_small_ones_there_and_back(self):
        for height, width in ((1, 1), (1, 2), (2, 1), (2, 2), (3, 2), (2, 3), (3, 3), (2, 4), (4, 2), (1, 5), (5, 1)):
            for (rows, columns), tables in ones_by_sums(height, width).items():
                self.there_and_back(list(rows), list(columns), sorted(tables))
                self.refused("NoNumber", ones_at, list(rows), list(columns), len(tables))

    def test_four_there_and_back(self):
        tables = ones_by_sums(4, 4)
        for rows, columns in (((2, 2, 2, 2), (2, 2, 2, 2)), ((1, 2, 3, 2), (2, 2, 3, 1)), ((3, 3, 1, 1), (2, 2, 2, 2))):
            self.there_and_back(list(rows), list(columns), sorted(tables[rows, columns]))

    def test_five_there_and_back(self):
        for rows, columns, many in (([1] * 5, [1] * 5, 120), ([4] * 5, [4] * 5, 120), ([2, 2], [1, 1, 1, 1, 0], 6)):
            tables = [ones_at(rows, columns, number) for number in range(many)]
            self.assertEqual(tables, sorted(tables))
            self.there_and_back(rows, columns, tables)
            for table in tables:
                self.assertOnes(table, rows, columns)

    def test_every_number_of_many(self):
        tables = [ones_at([2] * 5, [2] * 5, number) for number in range(2040)]
        for table, after in zip(tables, tables[1:]):
            self.assertLess(table, after)
        for number in range(0, 2040, 17):
            self.assertOnes(tables[number], [2] * 5, [2] * 5)
            self.assertEqual(number_of(tables[number]), number)

    def test_up_to_five(self):
        numbers = Numbers(91)
        for height, width in itertools.product(range(1, 6), repeat=2):
            table = numbers.table(height, width, 0, 1)
            rows, columns = sums_by_hand(table)
            number = self.told(number_of, table)
            self.assertEqual(self.told(ones_at, rows, columns, number), table)
            many = count_of(rows, columns)
            self.assertEqual(self.told(number_of, self.told(ones_at, rows, columns, many - 1)), many - 1)
            self.assertEqual(self.told(number_of, self.told(ones_at, rows, columns, 0)), 0)
            for outside in (many, many + 1, -1, -many):
                self.refused("NoNumber", ones_at, rows, columns, outside)

    def test_no_number(self):
        for rows, columns, many in (([1], [1], 1), ([1, 1], [1, 1], 2), ([2, 2], [1] * 4, 6), ([2] * 5, [2] * 5, 2040)):
            self.assertEqual(count_of(rows, columns), many)
            for number in (many, many + 1, -1, -2, -many, GREAT, SMALL) + NO_NUMBERS:
                self.refused("NoNumber", ones_at, rows, columns, number)

    def test_no_number_where_there_is_no_table(self):
        for rows, columns in (([2], [2]), ([1], [0]), ([3, 0], [2, 1]), ([GREAT] * 5, [GREAT] * 5), ([1] * 5, [1] * 4)):
            for number in (0, 1, -1, GREAT) + NO_NUMBERS:
                self.refused("NoNumber", ones_at, rows, columns, number)

    def test_too_great_goes_ahead(self):
        for rows, columns in TOO_GREAT:
            for number in (0, 1, -1, GREAT, SMALL) + NO_NUMBERS:
                self.refused("TooGreat", ones_at, rows, columns, number)

    def test_too_great_a_table(self):
        for height, width in ((6, 1), (1, 6), (6, 5), (5, 6), (6, 6), (8, 8), (1, 8), (8, 1), (9, 2)):
            self.refused("TooGreat", number_of, [[0] * width for row in range(height)])
            self.refused("TooGreat", number_of, [[1] * width for row in range(height)])

    def test_told_at_once(self):
        for number in (0, 1000, 2039):
            table = self.told_at_once(200000, ones_at, [3] * 5, [3] * 5, number)
            self.assertEqual(self.told_at_once(200000, number_of, table), number)


if __name__ == "__main__":
    unittest.main()
