import itertools
import unittest

from evenmix.ones import heap_of, ones_with
from evenmix.rows import bar_of
from helper import GREAT, MixCase, Numbers, ones_by_sums, sums_by_hand


class OnesWith(MixCase):
    def wants_too_much(self, some, ones, others):
        self.assertRising(some, len(ones))
        self.assertGreater(sum(ones[place] for place in some), sum(min(number, len(some)) for number in others))

    def holds(self, rows, columns):
        """What is told bears itself out: a table and what bars it can't both be."""
        answer = self.told(ones_with, rows, columns)
        self.assertIsInstance(answer, tuple)
        self.assertEqual(len(answer), 2)
        if answer[0] == "table":
            self.assertOnes(answer[1], rows, columns)
        elif answer[0] == "rows":
            self.wants_too_much(answer[1], rows, columns)
        else:
            self.assertEqual(answer[0], "columns")
            self.wants_too_much(answer[1], columns, rows)
        return answer

    def test_one_row_and_one_column(self):
        self.assertEqual(self.told(ones_with, [0], [0]), ("table", [[0]]))
        self.assertEqual(self.told(ones_with, [1], [1]), ("table", [[1]]))
        for rows, columns in (([1], [0]), ([0], [1]), ([2], [2]), ([2], [1]), ([1], [2]), ([GREAT], [GREAT])):
            self.assertNotEqual(self.holds(rows, columns)[0], "table")

    def test_sums_with_just_one_table(self):
        for table in ([[0, 0], [0, 0]], [[1, 1], [1, 1]], [[1, 1, 1], [0, 1, 0]], [[1, 0], [1, 1], [0, 0]],
                      [[1, 1, 1, 0]], [[0], [1], [0]], [[1 if column <= row else 0 for column in range(8)]
                                                        for row in range(8)], [[1] * 8] * 8, [[0] * 8] * 8):
            self.assertEqual(self.told(ones_with, *sums_by_hand(table)), ("table", table))

    def test_eight_rows_and_eight_columns(self):
        for number in range(9):
            self.assertEqual(self.holds([number] * 8, [number] * 8)[0], "table")
        self.assertEqual(self.holds([8, 8, 8, 8, 0, 0, 0, 0], [4] * 8)[0], "table")
        self.assertEqual(self.holds([1, 2, 3, 4, 5, 6, 7, 8], [8, 7, 6, 5, 4, 3, 2, 1])[0], "table")
        self.assertEqual(self.holds([8, 8, 8, 8, 1, 0, 0, 0], [5, 4, 4, 4, 4, 4, 4, 4])[0], "table")
        self.assertNotEqual(self.holds([8, 8, 8, 8, 0, 0, 0, 0], [5, 3, 4, 4, 4, 4, 4, 4])[0], "table")
        self.assertNotEqual(self.holds([8, 7, 6, 5, 4, 3, 2, 1], [8, 8, 6, 5, 4, 3, 1, 1])[0], "table")

    def test_a_sum_above_what_there_is(self):
        self.assertNotEqual(self.holds([3, 0], [2, 1])[0], "table")
        self.assertNotEqual(self.holds([2, 1], [3, 0])[0], "table")
        self.assertNotEqual(self.holds([9] + [0] * 7, [2, 1, 1, 1, 1, 1, 1, 1])[0], "table")
        self.assertNotEqual(self.holds([GREAT, 0], [GREAT, 0])[0], "table")
        self.assertNotEqual(self.holds([0, 9, 0], [3, 3, 3])[0], "table")

    def test_sums_that_come_to_unlike_numbers(self):
        for rows, columns in (([1, 1], [1, 0]), ([1, 0], [1, 1]), ([0], [1, 1]), ([2], [1, 0]), ([1, 1, 1], [1, 1]),
                              ([8] * 8, [8] * 7 + [7]), ([8] * 7 + [7], [8] * 8), ([GREAT], [1]), ([1], [GREAT]),
                              ([0, 3], [1, 1]), ([0, 3], [2, 2]), ([5, 0], [1, 1])):
            self.assertNotEqual(self.holds(rows, columns)[0], "table")

    def test_all_small_sums(self):
        for height, width in itertools.product((1, 2, 3), repeat=2):
            tables = ones_by_sums(height, width)
            for rows in itertools.product(range(width + 2), repeat=height):
                for columns in itertools.product(range(height + 2), repeat=width):
                    answer = self.holds(list(rows), list(columns))
                    self.assertEqual(answer[0] == "table", (rows, columns) in tables, (rows, columns))

    def test_just_where_the_rows_are_more_even_than_the_heap(self):
        numbers = Numbers(40)
        kinds = []
        for each in range(400):
            height, width = numbers.pick(1, 8), numbers.pick(1, 8)
            rows, columns = sums_by_hand(numbers.table(height, width, 0, 1))
            if each % 2 == 1:
                giver, taker = numbers.pick(0, height - 1), numbers.pick(0, height - 1)
                many = numbers.pick(0, rows[giver])
                rows[giver] -= many
                rows[taker] += many
            kinds.append(self.holds(rows, columns)[0])
            if max(columns) <= height:
                self.assertEqual(kinds[-1] == "table", bar_of(rows, heap_of(columns, height)) is None)
        self.assertGreater(kinds.count("rows"), 20)
        self.assertGreater(kinds.count("table"), 200)

    def test_beyond_eight_nothing_is_refused(self):
        self.assertEqual(self.holds([5] * 10, [5] * 10)[0], "table")

    def test_told_at_once(self):
        self.told_at_once(200000, ones_with, [4] * 8, [4] * 8)
        self.told_at_once(200000, ones_with, [GREAT] * 8, [GREAT] * 8)


class HeapOf(MixCase):
    def test_heap(self):
        self.assertEqual(self.told(heap_of, [3, 1, 2], 3), [3, 2, 1])
        self.assertEqual(self.told(heap_of, [2, 2], 4), [2, 2, 0, 0])
        self.assertEqual(self.told(heap_of, [1], 1), [1])
        self.assertEqual(self.told(heap_of, [5, 0, 2, 5], 3), [3, 3, 2])

    def test_sums_of_nought(self):
        for many in range(1, 9):
            self.assertEqual(self.told(heap_of, [0], many), [0] * many)
            self.assertEqual(self.told(heap_of, [0] * 8, many), [0] * many)

    def test_sums_above_many(self):
        for many in range(1, 9):
            self.assertEqual(self.told(heap_of, [many + 1, GREAT, many], many), [3] * many)
            self.assertEqual(self.told(heap_of, [GREAT] * 8, many), [8] * many)

    def test_each_many_from_one_to_eight(self):
        for many in range(1, 9):
            self.assertEqual(self.told(heap_of, [8, 7, 6, 5, 4, 3, 2, 1], many), [8, 7, 6, 5, 4, 3, 2, 1][:many])
            for sums in ([4, 4, 1], [0, 9, 3, 3], [2] * 8):
                heap = [sum(1 for number in sums if number >= k) for k in range(1, many + 1)]
                self.assertEqual(self.told(heap_of, sums, many), heap)


if __name__ == "__main__":
    unittest.main()
