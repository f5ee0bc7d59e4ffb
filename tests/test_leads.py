import unittest

from evenmix.leads import lead_to
from evenmix.mixes import is_even, mixture_of, told_by
from evenmix.tables import times_row
from helper import GREAT, SMALL, LeadTests, MixCase, Numbers


class LeadTo(LeadTests, MixCase):
    ask = staticmethod(lead_to)

    def leads(self, one, other):
        answer = self.told(lead_to, one, other)
        self.assertIsInstance(answer, tuple)
        self.assertEqual((len(answer), answer[0]), (2, "table"), (one, other))
        table = answer[1]
        self.assertEven(table, len(one))
        self.assertTrue(is_even(table))
        bottom = sum(table[0])
        self.assertEqual(times_row(table, other), [bottom * number for number in one])
        return table

    def test_what_was_told_is_told_again_as_a_mixture(self):
        numbers = Numbers(12)
        for length in range(1, 9):
            table = self.leads(*numbers.two_rows(length, SMALL, GREAT, 20))
            pairs = self.told(mixture_of, table)
            self.assertLessEqual(len(pairs), (length - 1) ** 2 + 1)
            self.assertEqual(self.told(told_by, pairs), table)


if __name__ == "__main__":
    unittest.main()
