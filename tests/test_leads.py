import itertools
import unittest

from evenmix.leads import lead_to
from evenmix.mixes import is_even, mixture_of, told_by
from evenmix.steps import steps_to
from evenmix.tables import times_row
from helper import GREAT, SMALL, MixCase, Numbers, bar_by_choice


class LeadTo(MixCase):
    def leads(self, one, other):
        answer = self.told(lead_to, one, other)
        self.assertIsInstance(answer, tuple)
        self.assertEqual((len(answer), answer[0]), (2, "table"), (one, other))
        table = answer[1]
        self.assertEven(table, len(one))
        self.assertTrue(is_even(table))
        bottom = sum(table[0])
        self.assertEqual(times_row(table, other), [bottom * number for number in one])
        return table

    def test_a_row_to_itself(self):
        for row in ([5], [0], [1, 2, 3], [2, 2, 2], [-1, 0, -1], [GREAT, SMALL, 0], [8, 7, 6, 5, 4, 3, 2, 1]):
            self.leads(row, row)
            self.leads(row, list(row))

    def test_rows_of_one_number(self):
        for number in (0, 1, -1, GREAT, SMALL):
            self.leads([number], [number])
        self.refused("NotAlike", lead_to, [1], [2])

    def test_both_ways_round(self):
        for one, other, bar in (([2, 2, 2], [3, 2, 1], 1), ([2, 2, 2], [0, 6, 0], 1), ([1, 2, 3], [3, 3, 0], 2),
                                ([0, 0], [1, -1], 1), ([-1, -1], [-3, 1], 1)):
            self.leads(one, other)
            self.assertEqual(self.told(lead_to, other, one), ("bar", bar))

    def test_neither_is_more_even(self):
        self.assertEqual(self.told(lead_to, [4, 1, 1], [3, 3, 0]), ("bar", 1))
        self.assertEqual(self.told(lead_to, [3, 3, 0], [4, 1, 1]), ("bar", 2))

    def test_the_same_numbers_in_another_order(self):
        for order in itertools.permutations([1, 2, 3, 4]):
            self.leads(list(order), [1, 2, 3, 4])

    def test_eight(self):
        self.leads([1] * 8, [8, 0, 0, 0, 0, 0, 0, 0])
        self.leads([0] * 8, [-7, 1, 1, 1, 1, 1, 1, 1])
        self.leads([1, 2, 3, 4, 5, 6, 7, 8], [0, 1, 2, 3, 6, 7, 8, 9])
        self.assertEqual(self.told(lead_to, [8, 0, 0, 0, 0, 0, 0, 0], [1] * 8), ("bar", 1))

    def test_many_figures_on_both_sides_of_nought(self):
        numbers = Numbers(11)
        for figures, length in itertools.product((18, 19, 30), range(2, 9)):
            for rounds in (1, 3, 20):
                one, other = numbers.two_rows(length, -10 ** figures + 1, 10 ** figures - 1, rounds)
                self.leads(one, other)
                bar = bar_by_choice(other, one)
                if bar is not None:
                    self.assertEqual(self.told(lead_to, other, one), ("bar", bar))

    def test_what_was_told_is_told_again_as_a_mixture(self):
        numbers = Numbers(12)
        for length in range(1, 9):
            table = self.leads(*numbers.two_rows(length, SMALL, GREAT, 20))
            pairs = self.told(mixture_of, table)
            self.assertLessEqual(len(pairs), (length - 1) ** 2 + 1)
            self.assertEqual(self.told(told_by, pairs), table)

    def test_all_small_ones(self):
        for length, low, high in ((2, -2, 2), (3, -1, 2), (4, 0, 2)):
            rows = [list(row) for row in itertools.product(range(low, high + 1), repeat=length)]
            for one, other in itertools.product(rows, repeat=2):
                if sum(one) != sum(other):
                    continue
                bar = bar_by_choice(one, other)
                self.assertEqual(steps_to(one, other)[0], "steps" if bar is None else "bar")
                if bar is None:
                    self.leads(one, other)
                else:
                    self.assertEqual(lead_to(one, other), ("bar", bar))

    def test_beyond_eight_nothing_is_refused(self):
        self.leads([1] * 10, [10, 0, 0, 0, 0, 0, 0, 0, 0, 0])

    def test_unlike_lengths(self):
        for one, other in (([1], [1, 0]), ([1, 0], [1]), ([0], [0, 0]), ([1, 2, 3], [3, 3]), ([1] * 8, [1] * 7)):
            self.refused("NotAlike", lead_to, one, other)

    def test_unlike_sums(self):
        for one, other in (([1], [2]), ([1, 2], [3, 1]), ([1, 1], [1, 2]), ([5, 0], [3, 3]), ([0, 0], [0, -1]),
                           ([GREAT, 0], [GREAT, 1])):
            self.refused("NotAlike", lead_to, one, other)


if __name__ == "__main__":
    unittest.main()
