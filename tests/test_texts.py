import fractions
import itertools
import math
import re
import unittest

from evenmix.leads import lead_to
from evenmix.terms import least_terms
from evenmix.texts import read_table, show_table
from helper import GREAT, NO_BOTTOMS, SMALL, MixCase, Numbers

FRACTION = re.compile(r"-?(0|[1-9][0-9]{0,29})(/([1-9][0-9]{0,29}))?", re.ASCII)

NO_TEXTS = (
    None, True, False, 0, 1, -1, GREAT, 1.0, 0.5, float("nan"), 1j, b"", b"1", b"1 2; 3 4", bytearray(b"1"), [], [1],
    ["1"], [[1]], ["1", "2"], (), ("1",), {}, {"1": "1"}, {"1"}, range(1), fractions.Fraction(1, 2), object(), str,
)


def shown_by_hand(table, bottom):
    """Python's own fractions are written the same way."""
    return "; ".join(" ".join(str(fractions.Fraction(cell, bottom)) for cell in row) for row in table)


def fraction_by_hand(word):
    found = FRACTION.fullmatch(word)
    if not found or word == "-0":
        return None
    top, bottom = int(found[1]), int(found[3] or 1)
    if found[2] and (bottom == 1 or top == 0 or math.gcd(top, bottom) > 1):
        return None
    return fractions.Fraction(-top if word[0] == "-" else top, bottom)


def read_by_hand(text):
    """The answer, or None where the text is not written as point 25 says."""
    rows = [[fraction_by_hand(word) for word in line.split(" ")] for line in text.split("; ")]
    if len(rows) > 8 or len(rows[0]) > 8 or any(len(row) != len(rows[0]) for row in rows):
        return None
    if any(each is None for row in rows for each in row):
        return None
    bottom = math.lcm(*[each.denominator for row in rows for each in row])
    return [[int(each * bottom) for each in row] for row in rows], bottom


class Texts(MixCase):
    def there_and_back(self, table, bottom):
        text = self.told(show_table, table, bottom)
        self.assertIs(type(text), str)
        self.assertEqual(text, shown_by_hand(table, bottom))
        answer = self.told(read_table, text)
        self.assertIsInstance(answer, tuple)
        self.assertEqual(answer, least_terms(table, bottom))
        self.assertEqual(self.told(show_table, *answer), text)
        return text

    def refuse(self, *texts):
        for text in texts:
            self.refused("NoText", read_table, text)

    def test_as_the_document_writes(self):
        self.assertEqual(self.told(show_table, [[2, 0, 2], [0, -12, 7]], 4), "1/2 0 1/2; 0 -3 7/4")
        self.assertEqual(self.told(read_table, "1/2 0 1/2; 0 -3 7/4"), ([[2, 0, 2], [0, -12, 7]], 4))
        self.assertEqual(self.told(show_table, [[4, 0, 4], [0, -24, 14]], 8), "1/2 0 1/2; 0 -3 7/4")

    def test_one_fraction(self):
        for text, table, bottom in (("0", [[0]], 1), ("1", [[1]], 1), ("-1", [[-1]], 1), ("10", [[10]], 1),
                                    ("1/2", [[1]], 2), ("-1/2", [[-1]], 2), ("-10/3", [[-10]], 3), ("7/10", [[7]], 10)):
            self.assertEqual(self.told(read_table, text), (table, bottom))
            self.assertEqual(self.told(show_table, table, bottom), text)

    def test_least_terms(self):
        self.assertEqual(self.told(read_table, "1/2 1/3"), ([[3, 2]], 6))
        self.assertEqual(self.told(read_table, "1/4; 1/6"), ([[3], [2]], 12))
        self.assertEqual(self.told(read_table, "0 0; 0 0"), ([[0, 0], [0, 0]], 1))
        self.assertEqual(self.told(read_table, "2 4; 6 8"), ([[2, 4], [6, 8]], 1))
        self.assertEqual(self.told(read_table, "2 1/2"), ([[4, 1]], 2))
        self.assertEqual(self.told(show_table, [[0, 0]], 5), "0 0")
        self.assertEqual(self.told(show_table, [[2, 3, -4, 6]], 6), "1/3 1/2 -2/3 1")

    def test_all_small_ones(self):
        for first, second, bottom in itertools.product(range(-7, 8), range(-7, 8), range(1, 8)):
            self.there_and_back([[first, second]], bottom)
            self.there_and_back([[first], [second]], bottom)

    def test_one_to_eight_rows_and_fractions(self):
        numbers = Numbers(100)
        for height, width in itertools.product(range(1, 9), repeat=2):
            for high, bottom in ((9, 1), (99, 12), (GREAT, 1), (GREAT, GREAT), (10 ** 16, 10 ** 16 - 63),
                                 (GREAT, 10 ** 29), (GREAT, numbers.pick(10 ** 29, GREAT))):
                self.there_and_back(numbers.table(height, width, -high, high), bottom)

    def test_unlike_bottoms_of_thirty_figures(self):
        numbers = Numbers(101)
        for height, width in ((1, 2), (2, 2), (8, 8)):
            words = [[str(fractions.Fraction(numbers.pick(SMALL, GREAT), numbers.pick(10 ** 29, GREAT)))
                      for column in range(width)] for row in range(height)]
            text = "; ".join(" ".join(line) for line in words)
            answer = self.told(read_table, text)
            self.assertEqual(answer, read_by_hand(text))
            self.assertEqual(least_terms(*answer), answer)
            self.assertEqual(self.told(show_table, *answer), text)

    def test_thirty_figures_and_one_more(self):
        nines, more = "9" * 30, "9" * 31
        for text in (nines, "-" + nines, "1/" + nines, "-1/" + nines, nines + "/2", f"-{nines}/{'8' * 29}7",
                     f"{'8' * 29}7/{nines}", f"{nines} {nines}; 1/{nines} -{nines}", "1" + "0" * 29):
            self.assertIsNotNone(read_by_hand(text))
            self.assertEqual(self.told(read_table, text), read_by_hand(text))
        self.refuse(more, "-" + more, "1/" + more, "-1/" + more, more + "/2", "0 " + more, "0; " + more, "1" + "0" * 30,
                    f"{more}/{nines}", f"1/2 1/{more}; 0 0", "1" * 5000, "1/" + "3" * 5000, "-" + "1" * 100000)

    def test_what_was_told_is_shown_but_not_read_again(self):
        numbers = Numbers(102)
        kind, table = lead_to(*numbers.two_rows(8, SMALL, GREAT, 30))
        self.assertEqual(kind, "table")
        bottom = sum(table[0])
        self.assertGreater(bottom, 10 ** 40)
        text = self.told(show_table, table, bottom)
        self.assertEqual(text, shown_by_hand(table, bottom))
        self.refuse(text, self.told(show_table, table, 1))
        for bottom in (1, 2, 10 ** 31):
            self.refuse(self.told(show_table, [[10 ** 30 + 1, -10 ** 30 - 1], [0, 0]], bottom))

    def test_numbers_of_thousands_of_figures_are_shown(self):
        # Python's own str and repr have a bound here, so these are not asked by way of told.
        sevens = 7 * (10 ** 5000 - 1) // 9
        self.assertEqual(show_table([[-sevens, 10 ** 6000]], 1), "-" + "7" * 5000 + " 1" + "0" * 6000)
        self.assertEqual(show_table([[1]], 10 ** 4999), "1/1" + "0" * 4999)

    def test_figures_with_noughts_within(self):
        for figures in (17, 18, 19, 35, 36, 37, 54, 55):
            for number in (10 ** figures - 1, 10 ** figures, 10 ** figures + 1, 10 ** figures + 10 ** 18):
                self.assertEqual(self.told(show_table, [[number, -number]], 1), f"{number} -{number}")

    def test_no_bottom(self):
        for bottom in NO_BOTTOMS:
            self.refused("NoBottom", show_table, [[2, 4]], bottom)
            self.refused("NoBottom", show_table, [[0]], bottom)

    def test_noughts_ahead_and_signs(self):
        self.refuse("-0", "00", "01", "-01", "007", "1 00", "0 -0", "01/2", "1/02", "-01/2", "1/-2", "-1/-2", "--1",
                    "-", "1-", "+1", "+0", "1/+2", "-+1", "+-1", "- 1", "-0/5", "-/2", "1 -; 1 1")

    def test_no_lowest_terms(self):
        self.refuse("0/5", "0/1", "0/0", "0/2", "3/1", "-3/1", "1/1", "2/4", "-2/4", "4/2", "6/4", "2/2", "1/0", "-1/0",
                    "3/0", "10/15", "1/2 2/4", f"{10 ** 29}/{10 ** 28}", f"{GREAT}/{GREAT}", f"{GREAT}/3")

    def test_slashes(self):
        self.refuse("/", "1/", "/2", "1//2", "1/2/3", "1/2/", "/1/2", "1 /2", "1/ 2", "1 / 2", "//", "1\\2")

    def test_blanks_and_parting_signs(self):
        self.refuse("", " ", "  ", ";", "; ", " ;", "; ; ", "1 ", " 1", " 1 ", "1  2", "1;", "1; ", ";1", "; 1", "1;2",
                    "1 ;2", "1 ; 2", "1;  2", "1 2;3 4", "1 2; 3 4;", "1 2; 3 4; ", "1 2; 3 4 ", " 1 2; 3 4", "1;; 2",
                    "1; ; 2", "1 2;; 3 4", "1,2", "1, 2", "1 2, 3 4", "1 2\n3 4", "1\t2", "1\n", "\n1", "1\r", "1;\n2",
                    "1;\t2", "1; 2\n", "1\u00a02", "1;\u00a02", "1\u20032", "1\x0b2", "1\x1f2", "1\x00", "1\ufeff",
                    "\ufeff1", "1: 2", "1 2 : 3 4")

    def test_other_signs_and_figures(self):
        self.refuse("a", "x", "1a", "a1", "0x1", "1e5", "1.0", "1.5", ".5", "1_000", "1_0", "1'000", "(1)", "[1]",
                    "[[1]]", "1!", "nan", "inf", "None", "True", "\u0661", "\u0967", "\uff11", "\u00b2", "\u00bd",
                    "\u2460", "\u4e00", "1\u0661", "\u22121", "\u20131", "1\u20442", "1\u22152", "1/\uff12", "\ud800",
                    "1\u0301", "0b1", "0o7", "1L", "1j", "~1", "$1", "1%")

    def test_nine_rows_and_nine_fractions(self):
        self.assertEqual(self.told(read_table, " ".join(["1"] * 8)), ([[1] * 8], 1))
        self.assertEqual(self.told(read_table, "; ".join(["1"] * 8)), ([[1]] * 8, 1))
        self.assertEqual(self.told(read_table, "; ".join(["1/2" + " 0" * 7] * 8)), ([[1] + [0] * 7] * 8, 2))
        self.refuse(" ".join(["1"] * 9), "; ".join(["1"] * 9), "; ".join(["1 1 1 1 1 1 1 1 1"] * 2),
                    "; ".join(["1 2"] * 9), "; ".join(["1 1 1 1 1 1 1 1 1"] * 9), " ".join(["1"] * 100000),
                    "; ".join(["1"] * 100000))

    def test_unlike_rows(self):
        self.refuse("1 2; 3", "1; 2 3", "1 2; 3 4; 5", "1 2; 3; 4 5", "1; 2; 3 4", "1 2 3 4 5 6 7; 1 2 3 4 5 6 7 8",
                    "1; 1 2 3 4 5 6 7 8 9", "1 1 1 1 1 1 1 1 1; 1")

    def test_each_sign_taken_out_put_in_or_exchanged(self):
        numbers = Numbers(103)
        texts = ["1/2 0 1/2; 0 -3 7/4", "0", "-1/3", "1; 2", "10 -20; 1/12 105", "5/6 1; 0 -1"]
        many = {"read": 0, "refused": 0}
        for text in texts + [shown_by_hand(numbers.table(2, 3, -12, 12), 12) for each in range(5)]:
            for place, sign in itertools.product(range(len(text) + 1), ("", *"0123456789 ;/-+.\n", "; ", " 0")):
                for changed in (text[:place] + sign + text[place:], text[:place] + sign + text[place + 1:]):
                    many[self.as_by_hand(changed)] += 1
        self.assertGreater(min(many.values()), 500)

    def as_by_hand(self, text):
        answer = read_by_hand(text)
        if answer is None:
            self.refuse(text)
            return "refused"
        self.assertEqual(self.told(read_table, text), answer, text)
        return "read"

    def test_no_texts(self):
        self.refuse(*NO_TEXTS)

    def test_beyond_eight_all_is_shown(self):
        self.assertEqual(self.told(show_table, [[1] * 9] * 10, 2), "; ".join([" ".join(["1/2"] * 9)] * 10))

    def test_told_at_once(self):
        numbers = Numbers(104)
        for each in range(5):
            table, bottom = numbers.table(8, 8, SMALL, GREAT), numbers.pick(10 ** 29, GREAT)
            text = self.told_at_once(200000, show_table, table, bottom)
            self.told_at_once(200000, read_table, text)
            text = "; ".join(" ".join(str(fractions.Fraction(numbers.pick(SMALL, GREAT), numbers.pick(10 ** 29, GREAT)))
                                      for column in range(8)) for row in range(8))
            table, bottom = self.told_at_once(200000, read_table, text)
            self.assertEqual(self.told_at_once(200000, show_table, table, bottom), text)


if __name__ == "__main__":
    unittest.main()
