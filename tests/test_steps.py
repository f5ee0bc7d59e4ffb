import itertools
import unittest

from evenmix.rows import bar_of
from evenmix.steps import step_made, steps_to
from helper import GREAT, SMALL, MixCase, Numbers, bar_by_choice


class StepMade(MixCase):
    def test_made(self):
        self.assertEqual(self.told(step_made, [5, 1, 2], (0, 1, 1)), [4, 2, 2])
        self.assertEqual(self.told(step_made, [5, 1, 2], (0, 2, 2)), [3, 1, 4])
        self.assertEqual(self.told(step_made, [1, 5], (1, 0, 3)), [4, 2])
        self.assertEqual(self.told(step_made, [-7, -3], (1, 0, 2)), [-5, -5])
        self.assertEqual(self.told(step_made, [8, 7, 6, 5, 4, 3, 2, 1], (0, 7, 6)), [2, 7, 6, 5, 4, 3, 2, 7])

    def test_the_whole_difference_exchanges_both(self):
        self.assertEqual(self.told(step_made, [5, 1, 2], (0, 1, 4)), [1, 5, 2])
        self.assertEqual(self.told(step_made, [SMALL, GREAT], (1, 0, 2 * GREAT)), [GREAT, SMALL])
        self.assertEqual(self.told(step_made, [0, 1], (1, 0, 1)), [1, 0])

    def test_one_more_than_the_difference(self):
        self.refused("NoStep", step_made, [5, 1, 2], (0, 1, 5))
        self.refused("NoStep", step_made, [0, 1], (1, 0, 2))
        self.refused("NoStep", step_made, [SMALL, GREAT], (1, 0, 2 * GREAT + 1))

    def test_an_amount_of_nought_or_below(self):
        for amount in (0, -1, -4, SMALL):
            self.refused("NoStep", step_made, [5, 1, 2], (0, 1, amount))
            self.refused("NoStep", step_made, [5, 1, 2], (1, 0, amount))

    def test_no_place(self):
        for place in (-1, -2, -3, -4, 3, 4, 100, SMALL, GREAT):
            self.refused("NoStep", step_made, [5, 1, 2], (0, place, 1))
            self.refused("NoStep", step_made, [5, 1, 2], (place, 1, 1))
            self.refused("NoStep", step_made, [5, 1, 2], (place, place, 1))
        # Counted from the end these would be places that a step can be made of.
        self.refused("NoStep", step_made, [5, 1, 2], (0, -2, 1))
        self.refused("NoStep", step_made, [5, 1, 2], (-3, 1, 1))

    def test_giver_and_taker_the_same(self):
        for place, amount in itertools.product(range(3), (-1, 0, 1, 2)):
            self.refused("NoStep", step_made, [5, 1, 2], (place, place, amount))
        self.refused("NoStep", step_made, [5], (0, 0, 1))

    def test_from_the_lesser_to_the_greater_or_between_equals(self):
        self.refused("NoStep", step_made, [5, 1, 2], (1, 0, 1))
        self.refused("NoStep", step_made, [5, 1, 2], (1, 2, 1))
        self.refused("NoStep", step_made, [2, 2], (0, 1, 1))
        self.refused("NoStep", step_made, [2, 2], (0, 1, 0))

    def test_all_steps_of_some_rows(self):
        for row in ([2, 0], [0, 2, 1], [1, -1, 1]):
            for giver, taker, amount in itertools.product(range(-4, 5), range(-4, 5), range(-3, 5)):
                places = range(len(row))
                can = giver in places and taker in places and giver != taker
                if can and 1 <= amount <= row[giver] - row[taker]:
                    made = list(row)
                    made[giver] -= amount
                    made[taker] += amount
                    self.assertEqual(self.told(step_made, row, (giver, taker, amount)), made)
                    self.assertIsNone(bar_of(made, row))
                else:
                    self.refused("NoStep", step_made, row, (giver, taker, amount))


class StepsTo(MixCase):
    def leads(self, one, other):
        """Looks at each step without asking the program."""
        answer = self.told(steps_to, one, other)
        self.assertIsInstance(answer, tuple)
        self.assertEqual((len(answer), answer[0]), (2, "steps"), (one, other))
        self.assertIsInstance(answer[1], list)
        self.assertLessEqual(len(answer[1]), 2 * len(one) - 2)
        row = list(other)
        for step in answer[1]:
            self.assertIsInstance(step, tuple)
            self.assertEqual([int, int, int], [type(number) for number in step])
            giver, taker, amount = step
            self.assertIn(giver, range(len(row)))
            self.assertIn(taker, range(len(row)))
            self.assertNotEqual(giver, taker)
            self.assertIn(amount, range(1, row[giver] - row[taker] + 1))
            row[giver] -= amount
            row[taker] += amount
        self.assertEqual(row, one)
        return answer[1]

    def test_a_row_to_itself(self):
        for row in ([5], [0], [1, 2, 3], [2, 2, 2], [-1, 0, -1], [GREAT, SMALL, 0], [8, 7, 6, 5, 4, 3, 2, 1]):
            self.assertEqual(steps_to(row, row), ("steps", []))
            self.assertEqual(self.told(steps_to, row, list(row)), ("steps", []))

    def test_rows_of_one_number(self):
        for number in (0, 1, -1, GREAT, SMALL):
            self.assertEqual(self.told(steps_to, [number], [number]), ("steps", []))
        self.refused("NotAlike", steps_to, [1], [2])

    def test_both_ways_round(self):
        for one, other, bar in (([2, 2, 2], [3, 2, 1], 1), ([2, 2, 2], [0, 6, 0], 1), ([1, 2, 3], [3, 3, 0], 2),
                                ([0, 0], [1, -1], 1), ([-1, -1], [-3, 1], 1)):
            self.leads(one, other)
            self.assertEqual(self.told(steps_to, other, one), ("bar", bar))

    def test_neither_is_more_even(self):
        self.assertEqual(self.told(steps_to, [4, 1, 1], [3, 3, 0]), ("bar", 1))
        self.assertEqual(self.told(steps_to, [3, 3, 0], [4, 1, 1]), ("bar", 2))

    def test_the_same_numbers_in_another_order(self):
        for order in itertools.permutations([1, 2, 3, 4]):
            self.leads(list(order), [1, 2, 3, 4])
            self.leads([2, 3, 4, 1], list(order))
        for order in itertools.permutations([1, 2, 1, 2]):
            self.leads(list(order), [1, 2, 1, 2])
        self.leads([2, 3, 4, 5, 6, 7, 8, 1], [1, 2, 3, 4, 5, 6, 7, 8])
        self.leads([8, 1, 2, 3, 4, 5, 6, 7], [1, 2, 3, 4, 5, 6, 7, 8])

    def test_eight(self):
        self.leads([1] * 8, [8, 0, 0, 0, 0, 0, 0, 0])
        self.leads([1] * 8, [0, 0, 0, 0, 0, 0, 0, 8])
        self.leads([0] * 8, [-7, 1, 1, 1, 1, 1, 1, 1])
        self.leads([1, 2, 3, 4, 5, 6, 7, 8], [0, 1, 2, 3, 6, 7, 8, 9])
        self.assertEqual(self.told(steps_to, [8, 0, 0, 0, 0, 0, 0, 0], [1] * 8), ("bar", 1))
        self.assertEqual(self.told(steps_to, [1, 1, 1, 1, 1, 1, 1, -7], [1, 1, 1, 1, 1, 1, 0, -6]), ("bar", 7))

    def test_many_figures_on_both_sides_of_nought(self):
        numbers = Numbers(10)
        for figures, length in itertools.product((18, 19, 30), range(2, 9)):
            for rounds in (1, 3, 20):
                one, other = numbers.two_rows(length, -10 ** figures + 1, 10 ** figures - 1, rounds)
                self.leads(one, other)
                bar = bar_by_choice(other, one)
                if bar is not None:
                    self.assertEqual(self.told(steps_to, other, one), ("bar", bar))
        self.leads([0, 0], [SMALL, GREAT])
        self.leads([GREAT, SMALL], [SMALL, GREAT])
        self.leads([GREAT - 1, 0, 1 - GREAT], [SMALL, 0, GREAT])

    def test_all_small_ones(self):
        for length, low, high in ((2, -2, 2), (3, -2, 2), (4, 0, 2)):
            rows = [list(row) for row in itertools.product(range(low, high + 1), repeat=length)]
            for one, other in itertools.product(rows, repeat=2):
                if sum(one) != sum(other):
                    continue
                bar = bar_by_choice(one, other)
                if bar is None:
                    self.leads(one, other)
                else:
                    self.assertEqual(steps_to(one, other), ("bar", bar))

    def test_beyond_eight_nothing_is_refused(self):
        self.leads([1] * 10, [10, 0, 0, 0, 0, 0, 0, 0, 0, 0])
        self.leads([10 ** 40, -10 ** 40], [-10 ** 41, 10 ** 41])

    def test_unlike_lengths(self):
        for one, other in (([1], [1, 0]), ([1, 0], [1]), ([0], [0, 0]), ([1, 2, 3], [3, 3]), ([1] * 8, [1] * 7)):
            self.refused("NotAlike", steps_to, one, other)

    def test_unlike_sums(self):
        for one, other in (([1], [2]), ([1, 2], [3, 1]), ([1, 1], [1, 2]), ([5, 0], [3, 3]), ([0, 0], [0, -1]),
                           ([GREAT, 0], [GREAT, 1])):
            self.refused("NotAlike", steps_to, one, other)


if __name__ == "__main__":
    unittest.main()
