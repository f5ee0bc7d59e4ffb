import itertools
import unittest

from evenmix.dealings import dealing_in
from helper import MixCase, Numbers


def has_dealing(marks):
    places = range(len(marks))
    return any(all(marks[row][order[row]] == 1 for row in places) for order in itertools.permutations(places))


class DealingIn(MixCase):
    def holds(self, marks):
        """What is told bears itself out: a dealing and rows that are short can't both be."""
        answer = self.told(dealing_in, marks)
        self.assertIsInstance(answer, tuple)
        self.assertEqual(len(answer), 2)
        if answer[0] == "dealing":
            self.assertIsInstance(answer[1], list)
            self.assertTrue(all(type(number) is int for number in answer[1]))
            self.assertEqual(sorted(answer[1]), list(range(len(marks))))
            for row, column in enumerate(answer[1]):
                self.assertEqual(marks[row][column], 1)
        else:
            self.assertEqual(answer[0], "short")
            self.assertRising(answer[1], len(marks))
            self.assertGreaterEqual(len(answer[1]), 1)
            columns = {column for row in answer[1] for column in range(len(marks)) if marks[row][column] == 1}
            self.assertLess(len(columns), len(answer[1]))
        return answer

    def test_one_row(self):
        self.assertEqual(self.told(dealing_in, [[1]]), ("dealing", [0]))
        self.assertEqual(self.told(dealing_in, [[0]]), ("short", [0]))

    def test_all_ones_and_all_noughts(self):
        for many in range(1, 9):
            self.assertEqual(self.holds([[1] * many for each in range(many)])[0], "dealing")
            self.assertEqual(self.holds([[0] * many for each in range(many)])[0], "short")

    def test_a_single_dealing(self):
        numbers = Numbers(20)
        for many in range(1, 9):
            for each in range(5):
                order, rank = numbers.order(many), numbers.order(many)
                marks = [[0] * many for row in range(many)]
                # Below the way from corner to corner all is 1, so the last row has one choice, then the next.
                for row, column in itertools.product(range(many), repeat=2):
                    marks[order[row]][rank[column]] = 1 if column <= row else 0
                dealing = [rank[order.index(row)] for row in range(many)]
                self.assertEqual(self.told(dealing_in, marks), ("dealing", dealing))

    def test_without_one(self):
        for marks in ([[1, 0], [1, 0]], [[1, 1], [0, 0]], [[0, 1], [0, 1]], [[1, 1, 1], [1, 0, 0], [1, 0, 0]],
                      [[1, 1, 0], [1, 1, 0], [1, 1, 0]], [[0, 0, 1, 0], [1, 1, 1, 1], [1, 1, 1, 1], [0, 0, 1, 0]]):
            self.assertEqual(self.holds(marks)[0], "short")

    def test_eight_of_which_five_have_four(self):
        marks = [[1] * 8 for row in range(8)]
        for row in (0, 2, 3, 5, 7):
            marks[row] = [0, 1, 1, 0, 0, 1, 1, 0]
        self.assertEqual(self.holds(marks), ("short", [0, 2, 3, 5, 7]))
        marks[3][4] = 1
        self.assertEqual(self.holds(marks)[0], "dealing")

    def test_all_of_one_to_three_rows(self):
        for many in (1, 2, 3):
            for cells in itertools.product((0, 1), repeat=many * many):
                marks = [list(cells[many * row:many * row + many]) for row in range(many)]
                self.assertEqual(self.holds(marks)[0] == "dealing", has_dealing(marks))

    def test_some_of_four_to_eight_rows(self):
        numbers = Numbers(21)
        kinds = []
        for many, thin in itertools.product(range(4, 9), range(1, 5)):
            for each in range(25):
                marks = [[1 if number == 0 else 0 for number in row] for row in numbers.table(many, many, 0, thin)]
                kinds.append(self.holds(marks)[0])
        self.assertGreater(kinds.count("dealing"), 50)
        self.assertGreater(kinds.count("short"), 50)

    def test_beyond_eight_nothing_is_refused(self):
        self.assertEqual(self.holds([[1] * 10 for each in range(10)])[0], "dealing")


if __name__ == "__main__":
    unittest.main()
