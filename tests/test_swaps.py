import itertools
import unittest

from evenmix.swaps import swap_made, swaps_between
from helper import GREAT, SMALL, MixCase, Numbers, all_ones, ones_by_sums, sums_by_hand


def made_by_hand(table, swap):
    """What a swap makes, None where it can't be made."""
    i, j, k, l = swap
    if i not in range(len(table)) or k not in range(len(table)):
        return None
    if j not in range(len(table[0])) or l not in range(len(table[0])):
        return None
    if (table[i][j], table[i][l], table[k][j], table[k][l]) != (1, 0, 0, 1):
        return None
    made = [list(row) for row in table]
    made[i][j], made[i][l], made[k][j], made[k][l] = 0, 1, 1, 0
    return made


def swapped_about(numbers, table, rounds):
    for each in range(rounds):
        swap = tuple(numbers.pick(0, (len(table[0]) if place % 2 else len(table)) - 1) for place in range(4))
        table = made_by_hand(table, swap) or table
    return table


class SwapMade(MixCase):
    def test_made(self):
        self.assertEqual(self.told(swap_made, [[1, 0], [0, 1]], (0, 0, 1, 1)), [[0, 1], [1, 0]])
        self.assertEqual(self.told(swap_made, [[1, 0], [0, 1]], (1, 1, 0, 0)), [[0, 1], [1, 0]])
        self.assertEqual(self.told(swap_made, [[1, 1, 0], [0, 1, 0], [0, 1, 1]], (0, 0, 2, 2)),
                         [[0, 1, 1], [0, 1, 0], [1, 1, 0]])
        self.assertEqual(self.told(swap_made, [[0, 0, 1, 0], [0, 1, 0, 0]], (0, 2, 1, 1)),
                         [[0, 1, 0, 0], [0, 0, 1, 0]])

    def test_the_one_that_leads_back(self):
        numbers = Numbers(50)
        found = 0
        for each in range(60):
            table = numbers.table(numbers.pick(2, 8), numbers.pick(2, 8), 0, 1)
            for i, k in itertools.product(range(len(table)), repeat=2):
                for j, l in itertools.product(range(len(table[0])), repeat=2):
                    if made_by_hand(table, (i, j, k, l)) and found < 500:
                        found += 1
                        made = self.told(swap_made, table, (i, j, k, l))
                        self.assertEqual(sums_by_hand(made), sums_by_hand(table))
                        self.assertEqual(self.told(swap_made, made, (i, l, k, j)), table)
                        self.refused("NoSwap", swap_made, made, (i, j, k, l))
        self.assertEqual(found, 500)

    def test_no_place(self):
        table = [[1, 0], [0, 1]]
        for at, place in itertools.product(range(4), (-1, -2, -3, 2, 3, 100, SMALL, GREAT)):
            for swap in ((0, 0, 1, 1), (1, 1, 0, 0)):
                swap = swap[:at] + (place,) + swap[at + 1:]
                self.refused("NoSwap", swap_made, table, swap)
        # Counted from the end these would be cells that a swap can be made of.
        for swap in ((-2, 0, 1, 1), (0, -2, 1, 1), (0, 0, -1, 1), (0, 0, 1, -1), (-2, -2, -1, -1)):
            self.refused("NoSwap", swap_made, table, swap)

    def test_places_of_a_table_that_is_not_square(self):
        self.refused("NoSwap", swap_made, [[1, 0, 0], [0, 1, 0]], (0, 0, 2, 1))
        self.refused("NoSwap", swap_made, [[1, 0, 0], [0, 1, 0]], (2, 0, 1, 1))
        self.refused("NoSwap", swap_made, [[1, 0], [0, 1], [0, 0]], (0, 2, 1, 1))
        self.refused("NoSwap", swap_made, [[1, 0], [0, 1], [0, 0]], (0, 0, 1, 2))

    def test_the_same_row_or_column_twice(self):
        for table in ([[1, 0], [0, 1]], [[1, 1], [1, 1]], [[0, 0], [0, 0]], [[1]], [[0]]):
            for i, j, k in itertools.product(range(len(table)), repeat=3):
                self.refused("NoSwap", swap_made, table, (i, j, i, k))
                self.refused("NoSwap", swap_made, table, (i, j, k, j))

    def test_all_swaps_of_small_tables(self):
        for height, width in ((1, 1), (1, 2), (2, 1), (2, 2), (2, 3)):
            for table in all_ones(height, width):
                rows, columns = range(-1, height + 1), range(-1, width + 1)
                for swap in itertools.product(rows, columns, rows, columns):
                    made = made_by_hand(table, swap)
                    if made is None:
                        self.refused("NoSwap", swap_made, table, swap)
                    else:
                        self.assertEqual(self.told(swap_made, table, swap), made)


class SwapsBetween(MixCase):
    def leads(self, one, other):
        """Looks at each swap without asking the program."""
        swaps = self.told(swaps_between, one, other)
        self.assertIsInstance(swaps, list)
        table = one
        for swap in swaps:
            self.assertIsInstance(swap, tuple)
            self.assertEqual([type(number) for number in swap], [int] * 4)
            table = made_by_hand(table, swap)
            self.assertIsNotNone(table, (one, other, swaps))
        self.assertEqual(table, other)
        moved = sum(1 for row in range(len(one)) for column in range(len(one[0]))
                    if one[row][column] == 1 and other[row][column] == 0)
        self.assertLessEqual(len(swaps), max(moved - 1, 0))
        return swaps

    def test_equal_tables(self):
        for table in ([[0]], [[1]], [[1, 0], [0, 1]], [[1, 0, 1]], [[1] * 8] * 8, [[0] * 8] * 8):
            self.assertEqual(self.told(swaps_between, table, table), [])
            self.assertEqual(self.told(swaps_between, table, [list(row) for row in table]), [])

    def test_one_swap(self):
        self.assertEqual(len(self.leads([[1, 0], [0, 1]], [[0, 1], [1, 0]])), 1)
        numbers = Numbers(51)
        for each in range(100):
            one = numbers.table(numbers.pick(2, 8), numbers.pick(2, 8), 0, 1)
            other = swapped_about(numbers, one, 1)
            self.assertEqual(len(self.leads(one, other)), 0 if one == other else 1)

    def test_rings(self):
        for many in range(2, 9):
            for full in (0, 1):
                one = [[full if column > row else 1 - full for column in range(many)] for row in range(many)]
                other = [list(row) for row in one]
                for row in range(many):
                    one[row][row], one[row][(row + 1) % many] = 1, 0
                    other[row][row], other[row][(row + 1) % many] = 0, 1
                self.leads(one, other)
                self.leads(other, one)
                self.leads([row[::-1] for row in one], [row[::-1] for row in other])
                self.leads(one[::-1], other[::-1])

    def test_dealings_of_eight(self):
        numbers = Numbers(52)
        plain = [[1 if column == row else 0 for column in range(8)] for row in range(8)]
        for each in range(30):
            order, rank = numbers.order(8), numbers.order(8)
            one, other = [plain[place] for place in order], [plain[place] for place in rank]
            self.leads(one, other)
            self.leads([[1 - cell for cell in row] for row in one], [[1 - cell for cell in row] for row in other])

    def test_many_swaps_of_up_to_eight(self):
        numbers = Numbers(53)
        for height, width in itertools.product((2, 3, 5, 8), repeat=2):
            for each in range(15):
                one = numbers.table(height, width, 0, 1)
                other = swapped_about(numbers, one, 200)
                self.leads(one, other)

    def test_all_small_ones(self):
        for height, width in ((1, 1), (1, 3), (2, 2), (2, 3), (3, 2), (3, 3), (2, 4)):
            for tables in ones_by_sums(height, width).values():
                for one, other in itertools.product(tables, repeat=2):
                    self.leads(one, other)

    def test_all_of_four_with_two_in_each_row_and_column(self):
        tables = [table for table in all_ones(4, 4) if sums_by_hand(table) == ([2] * 4, [2] * 4)]
        self.assertEqual(len(tables), 90)
        for one, other in itertools.product(tables[::3], tables):
            self.leads(one, other)

    def test_unlike_sums(self):
        for one, other in (([[0]], [[1]]), ([[1, 0]], [[0, 1]]), ([[1], [0]], [[0], [1]]),
                           ([[1, 0], [0, 0]], [[0, 0], [0, 1]]), ([[1, 0], [1, 0]], [[1, 0], [0, 1]]),
                           ([[1, 1], [0, 0]], [[1, 0], [0, 1]]),
                           ([[1] * 8] * 8, [[1] * 8] * 7 + [[1] * 7 + [0]])):
            self.refused("NotAlike", swaps_between, one, other)
            self.refused("NotAlike", swaps_between, other, one)

    def test_unlike_shapes(self):
        for one, other in (([[0]], [[0, 0]]), ([[0]], [[0], [0]]), ([[1, 0]], [[1], [0]]), ([[0, 0]], [[0], [0]]),
                           ([[1, 1]], [[1, 1], [0, 0]]), ([[1], [1]], [[1, 0], [1, 0]]),
                           ([[0] * 8] * 7, [[0] * 7] * 8), ([[1, 0, 0], [0, 1, 0]], [[1, 0], [0, 1]])):
            self.refused("NotAlike", swaps_between, one, other)
            self.refused("NotAlike", swaps_between, other, one)

    def test_beyond_eight_nothing_is_refused(self):
        plain = [[1 if column == row else 0 for column in range(10)] for row in range(10)]
        self.leads(plain, plain[1:] + plain[:1])

    def test_told_at_once(self):
        numbers = Numbers(54)
        for each in range(20):
            one = numbers.table(8, 8, 0, 1)
            self.told_at_once(200000, swaps_between, one, swapped_about(numbers, one, 500))


if __name__ == "__main__":
    unittest.main()
