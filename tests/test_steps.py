import itertools
import unittest

from evenmix.rows import bar_of
from evenmix.steps import step_made, steps_to
from helper import GREAT, SMALL, LeadTests, MixCase


class StepMade(MixCase):
    def test_made(self):
        self.assertEqual(self.told(step_made, [5, 1, 2], (0, 1, 1)), [4, 2, 2])
        self.assertEqual(self.told(step_made, [5, 1, 2], (0, 2, 2)), [3, 1, 4])
        self.assertEqual(self.told(step_made, [1, 5], (1, 0, 3)), [4, 2])
        self.assertEqual(self.told(step_made, [-7, -3], (1, 0, 2)), [-5, -5])
        self.assertEqual(self.told(step_made, [8, 7, 6, 5, 4, 3, 2, 1], (0, 7, 6)), [2, 7, 6, 5, 4, 3, 2, 7])

    def test_the_whole_difference_exchanges_both(self):
        self.assertEqual(self.told(step_made, [5, 1, 2], (0, 1, 4)), [1, 5, 2])
        self.assertEqual(self.told(step_made, [SMALL, GREAT], (1, 0, 2 * GREAT)), [GREAT, SMALL])
        self.assertEqual(self.told(step_made, [0, 1], (1, 0, 1)), [1, 0])

    def test_one_more_than_the_difference(self):
        self.refused("NoStep", step_made, [5, 1, 2], (0, 1, 5))
        self.refused("NoStep", step_made, [0, 1], (1, 0, 2))
        self.refused("NoStep", step_made, [SMALL, GREAT], (1, 0, 2 * GREAT + 1))

    def test_an_amount_of_nought_or_below(self):
        for amount in (0, -1, -4, SMALL):
            self.refused("NoStep", step_made, [5, 1, 2], (0, 1, amount))
            self.refused("NoStep", step_made, [5, 1, 2], (1, 0, amount))

    def test_no_place(self):
        for place in (-1, -2, -3, -4, 3, 4, 100, SMALL, GREAT):
            self.refused("NoStep", step_made, [5, 1, 2], (0, place, 1))
            self.refused("NoStep", step_made, [5, 1, 2], (place, 1, 1))
            self.refused("NoStep", step_made, [5, 1, 2], (place, place, 1))
        # Counted from the end these would be places that a step can be made of.
        self.refused("NoStep", step_made, [5, 1, 2], (0, -2, 1))
        self.refused("NoStep", step_made, [5, 1, 2], (-3, 1, 1))

    def test_giver_and_taker_the_same(self):
        for place, amount in itertools.product(range(3), (-1, 0, 1, 2)):
            self.refused("NoStep", step_made, [5, 1, 2], (place, place, amount))
        self.refused("NoStep", step_made, [5], (0, 0, 1))

    def test_from_the_lesser_to_the_greater_or_between_equals(self):
        self.refused("NoStep", step_made, [5, 1, 2], (1, 0, 1))
        self.refused("NoStep", step_made, [5, 1, 2], (1, 2, 1))
        self.refused("NoStep", step_made, [2, 2], (0, 1, 1))
        self.refused("NoStep", step_made, [2, 2], (0, 1, 0))

    def test_all_steps_of_some_rows(self):
        for row in ([2, 0], [0, 2, 1], [1, -1, 1]):
            for giver, taker, amount in itertools.product(range(-4, 5), range(-4, 5), range(-3, 5)):
                places = range(len(row))
                can = giver in places and taker in places and giver != taker
                if can and 1 <= amount <= row[giver] - row[taker]:
                    made = list(row)
                    made[giver] -= amount
                    made[taker] += amount
                    self.assertEqual(self.told(step_made, row, (giver, taker, amount)), made)
                    self.assertIsNone(bar_of(made, row))
                else:
                    self.refused("NoStep", step_made, row, (giver, taker, amount))


class StepsTo(LeadTests, MixCase):
    ask = staticmethod(steps_to)

    def leads(self, one, other):
        """Looks at each step without asking the program."""
        answer = self.told(steps_to, one, other)
        self.assertIsInstance(answer, tuple)
        self.assertEqual((len(answer), answer[0]), (2, "steps"), (one, other))
        self.assertIsInstance(answer[1], list)
        self.assertLessEqual(len(answer[1]), 2 * len(one) - 2)
        row = list(other)
        for step in answer[1]:
            self.assertIsInstance(step, tuple)
            self.assertEqual([int, int, int], [type(number) for number in step])
            giver, taker, amount = step
            self.assertIn(giver, range(len(row)))
            self.assertIn(taker, range(len(row)))
            self.assertNotEqual(giver, taker)
            self.assertTrue(1 <= amount <= row[giver] - row[taker], (row, step))
            row[giver] -= amount
            row[taker] += amount
        self.assertEqual(row, one)

    def test_no_steps_between_equal_rows(self):
        for row in ([5], [0], [1, 2, 3], [2, 2, 2], [GREAT, SMALL, 0], [8, 7, 6, 5, 4, 3, 2, 1]):
            self.assertEqual(self.told(steps_to, row, row), ("steps", []))


if __name__ == "__main__":
    unittest.main()
