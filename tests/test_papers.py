import copy
import itertools
import unittest

from evenmix import papers
from evenmix.papers import (
    BarPaper, CutPaper, LeadPaper, MixPaper, PairPaper, Paper, RoundPaper, StepPaper, SumPaper, SwapPaper,
)
from helper import (
    GREAT, SMALL, MixCase, Numbers, all_ones, bar_by_choice, bars_by_hand, head_by_choice, lists_in, places_in,
    rounded_by_hand, sums_by_hand,
)

NAMES = (
    "MixPaper", "StepPaper", "BarPaper", "LeadPaper", "SumPaper", "CutPaper", "SwapPaper", "RoundPaper", "PairPaper",
)


def emptied(one):
    one.clear()


def lengthened(one):
    one.append(copy.deepcopy(one[-1]) if one else 0)


def turned_round(one):
    one.reverse()


def renumbered(one):
    for place, part in enumerate(one):
        if isinstance(part, int):
            one[place] = part + 1


CHANGES = (emptied, lengthened, turned_round, renumbered)


def with_each_number_changed(thing, changes):
    """The thing, once for each number in it and each change of it."""
    if isinstance(thing, int):
        for change in changes:
            yield thing + change
    else:
        for place, part in enumerate(thing):
            for changed in with_each_number_changed(part, changes):
                whole = list(thing)
                whole[place] = changed
                yield type(thing)(whole)


def row_shapes(row):
    return [row + [0], [0] + row, row + [row[0]], row[:-1] or [0, 0], row[1:] or [1, 1]]


def table_shapes(table):
    """The table with a row or a column more or fewer, one cell, and turned where that is another shape."""
    noughts = [0] * len(table[0])
    shapes = [table + [noughts], [noughts] + table, [row + [0] for row in table], [[0] + row for row in table], [[0]],
              [[1]], [[1] * 8] * 8, table[:-1] or [[1], [1]], [row[:-1] for row in table] if noughts[1:] else [[1, 1]]]
    if len(table) != len(noughts):
        shapes.append([list(column) for column in zip(*table)])
    return [shape for shape in shapes if (len(shape), len(shape[0])) != (len(table), len(table[0]))]


class PaperCase(MixCase):
    kind = None

    def judged(self, verdict, *things):
        """That a paper of these things judges so; on the way, what point 26 says of all papers is held."""
        words, places = repr(things), places_in(things)
        paper = self.kind(*things)
        for each in range(2):
            self.assertIs(paper.holds(), verdict, words)
        self.assertEqual(repr(things), words, "handed in, and changed")
        self.assertEqual(places_in(things), places, "handed in, and exchanged")
        self.assertIs(type(paper), self.kind)
        for change in CHANGES:
            self.keeps_its_own(verdict, things, change)

    def keeps_its_own(self, verdict, things, change):
        handed = copy.deepcopy(things)
        fresh, asked = self.kind(*handed), self.kind(*handed)
        asked.holds()
        for each in lists_in(handed):
            change(each)
        for paper in (fresh, asked):
            self.assertIs(paper.holds(), verdict, (things, change))

    def broken_alone(self, claim, place, others):
        """That the claim holds, and doesn't once its part at the place is any of the others."""
        self.judged(True, *claim)
        for other in others:
            self.judged(False, *claim[:place], other, *claim[place + 1:])


class Classes(unittest.TestCase):
    def test_all_stand_straight_under_paper(self):
        self.assertEqual(Paper.__bases__, (object,))
        for name in NAMES:
            self.assertEqual(getattr(papers, name).__bases__, (Paper,))

    def test_none_under_another(self):
        for one, other in itertools.permutations(NAMES, 2):
            self.assertFalse(issubclass(getattr(papers, one), getattr(papers, other)))

    def test_the_plain_paper_holds(self):
        paper = Paper()
        self.assertIs(paper.holds(), True)
        self.assertIs(paper.holds(), True)
        for name in NAMES:
            self.assertNotIsInstance(paper, getattr(papers, name))


class MixPapers(PaperCase):
    kind = MixPaper
    table = [[3, 4], [4, 3]]
    pairs = [(3, [0, 1]), (4, [1, 0])]

    def test_tables(self):
        self.broken_alone((self.table, self.pairs), 0, table_shapes(self.table))
        self.broken_alone((self.table, self.pairs), 0, with_each_number_changed(self.table, (1, -1, -7, GREAT)))
        self.broken_alone((self.table, self.pairs), 0, [[[4, 3], [3, 4]], [[6, 8], [8, 6]], [[0, 0], [0, 0]]])

    def test_pairs(self):
        self.broken_alone((self.table, self.pairs), 1, with_each_number_changed(self.pairs, (1, -1, 2, -4, SMALL)))
        self.broken_alone((self.table, self.pairs), 1, [
            [], self.pairs[:1], self.pairs[1:], self.pairs + self.pairs, self.pairs + [(1, [0, 1])],
            [(3, [0, 1]), (4, [1])], [(3, [0, 1]), (4, [1, 0, 2])], [(3, [0]), (4, [0])], [(3, []), (4, [])],
            [(3, [0, 1]), (4, [])], [(3, []), (4, [1, 0])], [(3, [0, 1, 2]), (4, [1, 0, 2])], [(7, [0])],
            [(3, [1, 0]), (4, [0, 1])], [(3, list(range(300))), (4, [1, 0])], [(3, [0, 1]), (4, list(range(300)))],
        ])

    def test_pairs_that_come_to_the_table_and_are_no_mixture(self):
        self.judged(False, self.table, self.pairs + [(0, [0, 1])])
        self.judged(False, self.table, [(4, [0, 1]), (4, [1, 0]), (-1, [0, 1])])
        self.judged(False, [[3, 4], [4, 3]], [(3, [0, 1]), (4, [-1, 0])])
        self.judged(False, [[7, 0], [7, 0]], [(7, [0, 0])])
        self.judged(False, [[0]], [])
        self.judged(False, [[0]], [(0, [0])])

    def test_others_that_hold(self):
        self.judged(True, [[1]], [(1, [0])])
        self.judged(True, self.table, [(4, [1, 0]), (3, [0, 1])])
        self.judged(True, self.table, [(1, [0, 1]), (4, [1, 0]), (2, [0, 1])])
        self.judged(True, [[GREAT, 0], [0, GREAT]], [(GREAT, [0, 1])])

    def test_two_hundred_pairs(self):
        numbers = Numbers(110)
        for length in (1, 2, 8):
            pairs = [(numbers.pick(1, GREAT), numbers.order(length)) for each in range(200)]
            table = [[sum(parts for parts, dealing in pairs if dealing[row] == column) for column in range(length)]
                     for row in range(length)]
            self.judged(True, table, pairs)
            self.judged(False, table, pairs[:-1])
            self.judged(False, table, pairs[:-1] + [(0, pairs[-1][1])])
            self.judged(False, table, pairs[:-1] + [(pairs[-1][0], pairs[-1][1] + [length])])


class StepPapers(PaperCase):
    kind = StepPaper
    one, other, steps = [3, 3, 2], [5, 1, 2], [(0, 1, 3), (1, 0, 1)]

    def test_rows(self):
        claim = (self.one, self.other, self.steps)
        for place in (0, 1):
            self.broken_alone(claim, place, with_each_number_changed(claim[place], (1, -1, GREAT, SMALL)))
            self.broken_alone(claim, place, row_shapes(claim[place]))
        self.judged(False, self.other, self.one, self.steps)

    def test_steps(self):
        claim = (self.one, self.other, self.steps)
        self.broken_alone(claim, 2, with_each_number_changed(self.steps, (1, -1, 3, -3, GREAT, SMALL)))
        self.broken_alone(claim, 2, [[], self.steps[:1], self.steps[1:], self.steps[::-1], self.steps + self.steps,
                                     self.steps + [(0, 2, 1)], [(0, 1, 0)] + self.steps])

    def test_steps_that_come_to_the_row_but_cannot_be_made(self):
        self.judged(True, [3, 1], [1, 3], [(1, 0, 2)])
        self.judged(False, [4, 0], [1, 3], [(1, 0, 3)])
        self.judged(False, [3, 1], [3, 1], [(0, 0, 1)])
        self.judged(False, [3, 1], [3, 1], [(0, 1, 0)])
        self.judged(False, [3, 1], [2, 2], [(0, 1, -1)])
        self.judged(False, [2, 2], [3, 1], [(-2, -1, 1)])
        self.judged(False, [2, 2], [3, 1], [(0, -1, 1)])
        self.judged(False, [2, 2], [3, 1], [(1, 0, 1), (0, 1, 2)])

    def test_no_steps(self):
        self.judged(True, [1, 2], [1, 2], [])
        self.judged(True, [0], [0], [])
        self.judged(False, [2, 1], [1, 2], [])
        self.judged(False, [1], [1, 0], [])
        self.judged(False, [1, 0], [1], [])

    def test_two_hundred_steps(self):
        steps = [(0, 1, 7), (1, 0, 7)] * 100
        self.judged(True, [7, 0], [7, 0], steps)
        self.judged(True, [0, 7], [7, 0], steps[:-1])
        self.judged(False, [7, 0], [7, 0], steps[:-1])
        self.judged(False, [0, 7], [7, 0], steps)
        self.judged(False, [7, 0], [7, 0], steps[:-1] + [(1, 0, 8)])
        self.judged(False, [7, 0], [7, 0], [(0, 1, 8)] + steps[1:])
        steps = [(0, 7, 1)] * 200
        self.judged(True, [GREAT - 200, 0, 0, 0, 0, 0, 0, 200], [GREAT, 0, 0, 0, 0, 0, 0, 0], steps)
        self.judged(False, [GREAT - 200, 0, 0, 0, 0, 0, 0, 199], [GREAT, 0, 0, 0, 0, 0, 0, 0], steps)


class BarPapers(PaperCase):
    kind = BarPaper

    def test_k(self):
        self.broken_alone(([4, 1, 1], [3, 3, 0], 1), 2, (2, 3, 4, 0, -1, -2, -3, -4, GREAT, SMALL))
        self.broken_alone(([3, 3, 0], [4, 1, 1], 2), 2, (1, 3, 4, 0, -1, -2, -3, 8, 9))

    def test_not_the_least(self):
        one, other = [0, 5, 0, 3], [3, 1, 1, 3]
        self.assertEqual(bar_by_choice(one, other), 1)
        for k in (1, 2, 3):
            self.judged(True, one, other, k)
        for k in (0, 4, 5, -1, -2, -3, -4, -5):
            self.judged(False, one, other, k)

    def test_rows(self):
        claim = ([4, 1, 1], [3, 3, 0], 1)
        for place in (0, 1):
            self.broken_alone(claim, place, with_each_number_changed(claim[place], (1, -1, GREAT, SMALL)))
            self.broken_alone(claim, place, row_shapes(claim[place]))
        self.judged(False, [3, 3, 0], [4, 1, 1], 1)
        self.judged(False, [4, 1, 1], [4, 1, 1], 1)

    def test_lengths_and_sums(self):
        self.judged(False, [5, 0], [4, 0], 1)
        self.judged(False, [5, 0], [4, 2], 1)
        self.judged(False, [4, 0], [3, 1, 0], 1)
        self.judged(False, [4, 0, 0], [3, 1], 1)
        self.judged(False, [2], [1], 1)
        self.judged(False, [1], [1], 1)

    def test_all_small_ones(self):
        rows = [list(row) for row in itertools.product(range(-1, 3), repeat=3)]
        for one, other in itertools.product(rows, repeat=2):
            for k in (1, 2, 3):
                above = head_by_choice(one, k) > head_by_choice(other, k)
                self.assertIs(BarPaper(one, other, k).holds(), sum(one) == sum(other) and above)

    def test_eight(self):
        self.judged(True, [8, 0, 0, 0, 0, 0, 0, 0], [1] * 8, 7)
        self.judged(False, [8, 0, 0, 0, 0, 0, 0, 0], [1] * 8, 8)
        self.judged(True, [GREAT, SMALL], [GREAT - 1, 1 - GREAT], 1)


class LeadPapers(PaperCase):
    kind = LeadPaper
    one, other, table = [1, 2, 3], [3, 3, 0], [[0, 1, 2], [0, 2, 1], [3, 0, 0]]

    def test_rows(self):
        claim = (self.one, self.other, self.table)
        for place in (0, 1):
            self.broken_alone(claim, place, with_each_number_changed(claim[place], (1, -1, GREAT, SMALL)))
            self.broken_alone(claim, place, row_shapes(claim[place]))
        self.judged(False, self.other, self.one, self.table)

    def test_tables(self):
        claim = (self.one, self.other, self.table)
        self.broken_alone(claim, 2, with_each_number_changed(self.table, (1, -1, 3, GREAT, SMALL)))
        self.broken_alone(claim, 2, table_shapes(self.table))
        self.broken_alone(claim, 2, [self.table[::-1], [row[::-1] for row in self.table], [[0] * 3] * 3])

    def test_times_the_bottom(self):
        self.judged(False, [3, 6, 9], self.other, self.table)
        self.judged(True, self.one, self.other, [[0, 2, 4], [0, 4, 2], [6, 0, 0]])
        self.judged(True, [5], [5], [[GREAT]])
        self.judged(True, [-1, -1], [-2, 0], [[4, 4], [4, 4]])

    def test_tables_that_lead_but_are_not_even(self):
        self.judged(False, [1, 1], [1, 1], [[2, 0], [1, 1]])
        self.judged(False, [3, 0], [2, 1], [[2, -1], [-1, 2]])
        self.judged(False, [0], [0], [[0]])
        self.judged(False, [0, 0], [0, 0], [[1, 0], [0, 2]])
        self.judged(False, [7], [-7], [[-1]])
        self.judged(False, [0], [0, 0], [[1, 1]])
        self.judged(False, [0, 0], [0], [[1], [1]])

    def test_rows_longer_or_shorter_than_the_table(self):
        plain = [[1, 0], [0, 1]]
        self.judged(True, [1, 2], [1, 2], plain)
        self.judged(False, [1, 2, 0], [1, 2, 0], plain)
        self.judged(False, [1], [1], plain)
        self.judged(False, [1, 2], [1, 2, 0], plain)
        self.judged(False, [1, 2, 0], [1, 2], plain)
        self.judged(False, [0] * 8, [0] * 8, plain)


class SumPapers(PaperCase):
    kind = SumPaper
    rows, columns, table = [2, 1], [1, 1, 1], [[1, 1, 0], [0, 0, 1]]

    def test_sums(self):
        claim = (self.rows, self.columns, self.table)
        for place in (0, 1):
            self.broken_alone(claim, place, with_each_number_changed(claim[place], (1, 2, GREAT)))
            self.broken_alone(claim, place, row_shapes(claim[place]))
        self.broken_alone(claim, 0, [[1, 2], [3], [0, 0]])
        self.broken_alone(claim, 1, [[0, 2, 1], [3], [0, 0, 0]])
        self.judged(False, self.columns, self.rows, self.table)

    def test_tables(self):
        claim = (self.rows, self.columns, self.table)
        self.broken_alone(claim, 2, table_shapes(self.table))
        flipped = [[[1 - cell if (row, column) == place else cell for column, cell in enumerate(line)]
                    for row, line in enumerate(self.table)] for place in itertools.product(range(2), range(3))]
        self.broken_alone(claim, 2, flipped)
        # The rows' sums alone are broken, and the columns' alone.
        self.broken_alone(claim, 2, [[[1, 0, 0], [0, 1, 1]], [[1, 1, 0], [0, 1, 0]]])

    def test_other_tables_with_the_same_sums(self):
        self.judged(True, self.rows, self.columns, [[0, 1, 1], [1, 0, 0]])
        self.judged(True, [0], [0], [[0]])
        self.judged(True, [1], [1], [[1]])
        self.judged(True, [8] * 8, [8] * 8, [[1] * 8] * 8)

    def test_no_table_of_ones(self):
        self.judged(False, [2, 2], [2, 2], [[2, 0], [0, 2]])
        self.judged(False, [1, 1], [1, 1], [[2, -1], [-1, 2]])
        self.judged(False, [0, 0], [0, 0], [[1, -1], [-1, 1]])

    def test_all_small_ones(self):
        for table in all_ones(2, 3):
            for other in all_ones(2, 3):
                rows, columns = sums_by_hand(other)
                self.assertIs(SumPaper(rows, columns, table).holds(), sums_by_hand(table) == (rows, columns))


class CutPapers(PaperCase):
    kind = CutPaper

    # Row 0 wants 6; column 1 can take 2 of it, and cell (0, 0) 3, while (1, 1) has 0 at least.
    rows, columns, low, high = [6, 0], [4, 2], [[0, 0], [0, 0]], [[3, 5], [9, 9]]
    claim = (rows, columns, low, high, [0], [1])

    def test_the_sums(self):
        self.judged(True, *self.claim)
        self.judged(False, [5, 0], *self.claim[1:])
        self.judged(True, [6, -5], *self.claim[1:])
        self.judged(False, self.rows, [4, 3], *self.claim[2:])
        self.judged(True, self.rows, [99, 2], *self.claim[2:])

    def test_the_bounds(self):
        for place, change, verdict in (((0, 0), 1, False), ((0, 1), 99, True), ((1, 0), 99, True), ((1, 1), 99, True),
                                       ((0, 0), -1, True), ((0, 1), -99, True), ((1, 0), -99, True)):
            high = copy.deepcopy(self.high)
            high[place[0]][place[1]] += change
            self.judged(verdict, self.rows, self.columns, self.low, high, [0], [1])
        for place, change, verdict in (((1, 1), -1, False), ((1, 1), 1, True), ((0, 0), -99, True), ((0, 1), 99, True),
                                       ((1, 0), -99, True), ((0, 1), -99, True)):
            low = copy.deepcopy(self.low)
            low[place[0]][place[1]] += change
            self.judged(verdict, self.rows, self.columns, low, self.high, [0], [1])

    def test_shapes(self):
        for place in (0, 1):
            self.broken_alone(self.claim, place, row_shapes(self.claim[place]))
        for place in (2, 3):
            self.broken_alone(self.claim, place, table_shapes(self.claim[place]))
        # Both tables alike, and still unlike the rows.
        for low, high in zip(table_shapes(self.low), table_shapes(self.high)):
            self.judged(False, self.rows, self.columns, low, high, [0], [1])
        wide = ([2], [0, 0, 0], [[0, 0, 0]], [[0, 0, 1]], [0], [])
        self.judged(True, *wide)
        self.judged(False, wide[1], wide[0], *wide[2:])

    def test_numbers_of_rows_and_columns(self):
        self.broken_alone(self.claim, 4, [[], [1], [0, 1], [1, 0], [0, 0], [-1], [-2], [2], [0, 2], [-1, 0], [0, -1],
                                          [0, 1, 1], [0, 0, 1], [GREAT], [0, SMALL], [0] * 8])
        self.broken_alone(self.claim, 5, [[], [0], [0, 1], [1, 0], [1, 1], [-1], [-2], [2], [1, 2], [-1, 1], [1, -1],
                                          [0, 1, 1], [GREAT], [1, SMALL], [1] * 8])

    def test_numbers_out_of_order_or_twice_where_the_sums_would_do(self):
        rows, columns, low, high = [5, 5, 5], [1, 1, 1], [[0] * 3] * 3, [[0] * 3] * 3
        for some, others in itertools.product(([0], [0, 1], [0, 2], [1, 2], [0, 1, 2]), ([], [0], [1, 2], [0, 1, 2])):
            self.judged(True, rows, columns, low, high, some, others)
        for some in ([1, 0], [2, 1], [0, 0], [1, 1], [0, 1, 1], [0, 2, 1], [-1], [-1, 0], [3], [0, 3], [2, 3]):
            self.judged(False, rows, columns, low, high, some, [0])
            self.judged(False, [1, 1, 1], [-9, -9, -9], low, high, [0], some)

    def test_none(self):
        self.judged(False, [1], [0], [[0]], [[0]], [], [])
        self.judged(True, [1], [0], [[0]], [[0]], [0], [])
        self.judged(True, [1], [0], [[1]], [[0]], [], [0])
        self.judged(True, [0, 0], [-1, 1], [[0, 0], [0, 0]], [[9, 9], [9, 9]], [], [0])
        self.judged(False, [0, 0], [-1, 1], [[0, 0], [0, 0]], [[9, 9], [9, 9]], [], [1])

    def test_a_low_above_its_high_and_unlike_sums_are_not_asked(self):
        self.judged(True, [7], [7], [[9]], [[5]], [0], [])
        self.judged(False, [7], [7], [[9]], [[5]], [0], [0])
        self.judged(True, [7], [7], [[9]], [[5]], [], [0])
        self.judged(True, [3], [2], [[0]], [[9]], [0], [0])
        self.judged(False, [2], [3], [[0]], [[9]], [0], [0])

    def test_all_cuts_of_some_small_ones(self):
        numbers = Numbers(111)
        verdicts = []
        for height, width in itertools.product((1, 2, 3), repeat=2):
            for each in range(6):
                rows, columns = numbers.row(height, -2, 5), numbers.row(width, -2, 5)
                low, high = numbers.table(height, width, -2, 2), numbers.table(height, width, -1, 3)
                for inside in itertools.product((False, True), repeat=height + width):
                    some = [row for row in range(height) if inside[row]]
                    others = [column for column in range(width) if inside[height + column]]
                    verdict = bars_by_hand(some, others, rows, columns, low, high)
                    verdicts.append(verdict)
                    self.assertIs(CutPaper(rows, columns, low, high, some, others).holds(), verdict)
        self.assertGreater(min(verdicts.count(True), verdicts.count(False)), 100)

    def test_eight(self):
        noughts, ones = [[0] * 8] * 8, [[1] * 8] * 8
        self.judged(True, [9] + [0] * 7, [2] * 8, noughts, ones, [0], [])
        self.judged(False, [8] + [0] * 7, [2] * 8, noughts, ones, [0], [])
        self.judged(False, [9] + [0] * 7, [2] * 8, noughts, ones, [0], list(range(8)))
        self.judged(True, [GREAT] * 8, [GREAT - 1] * 8, noughts, ones, list(range(8)), list(range(8)))


class SwapPapers(PaperCase):
    kind = SwapPaper

    def flipped(self, table):
        for place in itertools.product(range(len(table)), range(len(table[0]))):
            turned = copy.deepcopy(table)
            turned[place[0]][place[1]] = 1 - turned[place[0]][place[1]]
            yield turned

    def test_tables(self):
        claim = ([[1, 0], [0, 1]], [[0, 1], [1, 0]], [(0, 0, 1, 1)])
        for place in (0, 1):
            self.broken_alone(claim, place, self.flipped(claim[place]))
            self.broken_alone(claim, place, table_shapes(claim[place]))
        self.judged(False, claim[1], claim[0], claim[2])

    def test_swaps(self):
        one, other = [[1, 0, 0], [0, 1, 0], [0, 0, 1]], [[0, 1, 0], [0, 0, 1], [1, 0, 0]]
        swaps = [(0, 0, 1, 1), (1, 0, 2, 2)]
        self.broken_alone((one, other, swaps), 2, with_each_number_changed(swaps, (1, -1, 2, -3, 3, GREAT, SMALL)))
        self.broken_alone((one, other, swaps), 2, [[], swaps[:1], swaps[1:], swaps[::-1], swaps + swaps,
                                                   swaps + [(0, 0, 0, 0)], [(0, 0, 1, 1), (0, 1, 1, 0)],
                                                   [(0, 0, 1, 0)] + swaps, [(0, 0, 0, 1)] + swaps])
        self.judged(True, one, other, swaps + [(0, 1, 1, 2), (0, 2, 1, 1)])

    def test_places_below_nought_and_too_great(self):
        one, other = [[1, 0], [0, 1]], [[0, 1], [1, 0]]
        for swap in itertools.product(range(-3, 4), repeat=4):
            self.assertIs(SwapPaper(one, other, [swap]).holds(), swap in ((0, 0, 1, 1), (1, 1, 0, 0)))

    def test_no_swaps(self):
        for table in ([[0]], [[1]], [[1, 0], [1, 1]], [[1] * 8] * 8):
            self.broken_alone((table, table, []), 0, self.flipped(table))
            self.broken_alone((table, table, []), 1, table_shapes(table))
        self.judged(False, [[0, 1]], [[0], [1]], [])

    def test_no_tables_of_ones(self):
        self.judged(False, [[2, 0], [0, 2]], [[2, 0], [0, 2]], [])
        self.judged(False, [[2, 0], [0, 2]], [[0, 2], [2, 0]], [(0, 0, 1, 1)])
        self.judged(False, [[1, 0, 0], [0, 1, 5]], [[0, 1, 0], [1, 0, 5]], [(0, 0, 1, 1)])

    def test_two_hundred_swaps(self):
        one, other = [[1, 0], [0, 1]], [[0, 1], [1, 0]]
        swaps = [(0, 0, 1, 1), (0, 1, 1, 0)] * 100
        self.judged(True, one, one, swaps)
        self.judged(True, one, other, swaps[:-1])
        self.judged(False, one, other, swaps)
        self.judged(False, one, one, swaps[:-1])
        self.judged(False, one, one, swaps[:-1] + [(0, 0, 1, 1)])
        self.judged(False, one, one, swaps[1:] + swaps[:1])


class RoundPapers(PaperCase):
    kind = RoundPaper

    def test_cells(self):
        claim = ([[1, 1], [1, 1]], 2, [[1, 0], [0, 1]])
        self.broken_alone(claim, 2, with_each_number_changed(claim[2], (1, -1, 2, GREAT, SMALL)))
        self.broken_alone(claim, 2, [[[1, 1], [0, 0]], [[1, 1], [1, 1]], [[0, 0], [0, 0]], [[1, 0], [1, 0]]])
        self.judged(True, [[1, 1], [1, 1]], 2, [[0, 1], [1, 0]])

    def test_differing_by_just_the_bottom(self):
        for cell, bottom in ((0, 1), (5, 1), (6, 3), (-6, 3), (GREAT, GREAT)):
            whole = cell // bottom
            self.broken_alone(([[cell]], bottom, [[whole]]), 2, [[[whole + 1]], [[whole - 1]]])
        for cell in (7, 8, -7, -8):
            down = cell // 3
            self.judged(True, [[cell]], 3, [[down]])
            self.judged(True, [[cell]], 3, [[down + 1]])
            self.judged(False, [[cell]], 3, [[down - 1]])
            self.judged(False, [[cell]], 3, [[down + 2]])

    def test_a_rows_sum_alone(self):
        self.judged(False, [[1, 1], [-1, -1]], 2, [[1, 1], [-1, -1]])
        self.judged(True, [[1, 1], [-1, -1]], 2, [[1, 0], [-1, 0]])

    def test_a_columns_sum_alone(self):
        self.judged(False, [[1, -1], [1, -1]], 2, [[1, -1], [1, -1]])
        self.judged(True, [[1, -1], [1, -1]], 2, [[1, -1], [0, 0]])

    def test_the_sum_of_all_alone(self):
        table = [[1] * 4] * 4
        two = [[1, 0, 0, 0], [0, 1, 0, 0], [0, 0, 0, 0], [0, 0, 0, 0]]
        self.judged(False, table, 16, two)
        self.judged(True, table, 16, [[0, 0, 0, 0], *two[1:]])
        self.judged(False, table, 16, [[0] * 4] * 4)
        self.judged(True, table, 15, two)

    def test_bottoms(self):
        self.broken_alone(([[5, 3], [-4, 0]], 6, [[1, 0], [-1, 0]]), 1, (0, -1, -2, -6, SMALL, 1, 2, 3))
        for bottom in (0, -1, -2, -5, SMALL):
            for table, whole in (([[0]], [[0]]), ([[5]], [[-1]]), ([[-5]], [[1]]), ([[5]], [[0]]),
                                 ([[0, 0], [0, 0]], [[0, 0], [0, 0]])):
                self.judged(False, table, bottom, whole)

    def test_shapes(self):
        claim = ([[0, 0, 0], [0, 0, 0]], 5, [[0, 0, 0], [0, 0, 0]])
        for place in (0, 2):
            self.broken_alone(claim, place, table_shapes(claim[place]))
        self.broken_alone(([[0]], 1, [[0]]), 2, [[[0, 0]], [[0], [0]], [[0] * 8] * 8])

    def test_all_small_ones(self):
        verdicts = []
        for bottom, cells in itertools.product((2, 3), itertools.product((-1, 0, 1, 2), repeat=4)):
            for wholes in itertools.product((-1, 0, 1), repeat=4):
                table, whole = [list(cells[:2]), list(cells[2:])], [list(wholes[:2]), list(wholes[2:])]
                verdicts.append(rounded_by_hand(table, bottom, whole))
                self.assertIs(RoundPaper(table, bottom, whole).holds(), verdicts[-1])
        self.assertGreater(min(verdicts.count(True), verdicts.count(False)), 500)


class PairPapers(unittest.TestCase):
    good = BarPaper([4, 1, 1], [3, 3, 0], 1)
    bad = BarPaper([4, 1, 1], [3, 3, 0], 2)

    def judged(self, verdict, paper):
        self.assertIs(paper.holds(), verdict)
        self.assertIs(paper.holds(), verdict)
        self.assertIs(type(paper), PairPaper)

    def test_two(self):
        self.judged(True, PairPaper(self.good, self.good))
        self.judged(False, PairPaper(self.good, self.bad))
        self.judged(False, PairPaper(self.bad, self.good))
        self.judged(False, PairPaper(self.bad, self.bad))
        self.judged(True, PairPaper(Paper(), Paper()))
        self.judged(False, PairPaper(Paper(), self.bad))

    def all_kinds(self):
        return [
            (MixPaper, ([[3, 4], [4, 3]], [(3, [0, 1]), (4, [1, 0])])),
            (StepPaper, ([3, 3], [5, 1], [(0, 1, 2)])),
            (BarPaper, ([5, 1], [3, 3], 1)),
            (LeadPaper, ([3, 3], [5, 1], [[1, 1], [1, 1]])),
            (SumPaper, ([1, 1], [1, 1], [[1, 0], [0, 1]])),
            (CutPaper, ([1], [1], [[0]], [[0]], [0], [])),
            (SwapPaper, ([[1, 0], [0, 1]], [[0, 1], [1, 0]], [(0, 0, 1, 1)])),
            (RoundPaper, ([[1, 1], [1, 1]], 2, [[1, 0], [0, 1]])),
        ]

    def test_papers_of_each_kind(self):
        for kind, things in self.all_kinds():
            paper = kind(*things)
            self.judged(True, PairPaper(paper, Paper()))
            self.judged(True, PairPaper(Paper(), paper))
            self.judged(False, PairPaper(paper, self.bad))
            self.judged(False, PairPaper(self.bad, paper))
            self.assertIs(paper.holds(), True)

    def test_what_the_papers_within_were_made_with_is_changed(self):
        for kind, things in self.all_kinds():
            for change in CHANGES:
                handed = copy.deepcopy(things)
                pair = PairPaper(PairPaper(Paper(), kind(*handed)), kind(*handed))
                for each in lists_in(handed):
                    change(each)
                self.judged(True, pair)

    def nested(self, leaves, first_last):
        paper = leaves[0]
        for leaf in leaves[1:]:
            paper = PairPaper(paper, leaf) if first_last else PairPaper(leaf, paper)
        return paper

    def test_thirty_deep(self):
        for first_last in (True, False):
            self.judged(True, self.nested([self.good] * 31, first_last))
            for place in range(31):
                leaves = [self.good] * 31
                leaves[place] = self.bad
                self.judged(False, self.nested(leaves, first_last))

    def of_many(self, leaves):
        if len(leaves) == 1:
            return leaves[0]
        half = len(leaves) // 2
        return PairPaper(self.of_many(leaves[:half]), self.of_many(leaves[half:]))

    def test_of_sixty(self):
        self.judged(True, self.of_many([self.good] * 60))
        for place in range(60):
            leaves = [Paper() for each in range(60)]
            leaves[place] = self.bad
            self.judged(False, self.of_many(leaves))
        thirty = self.nested([self.good] * 30, True)
        self.judged(True, PairPaper(thirty, thirty))
        self.judged(False, PairPaper(thirty, PairPaper(thirty, self.bad)))


class AtOnce(MixCase):
    def asked(self, verdict, kind, *things):
        self.assertIs(self.told_at_once(200000, lambda: kind(*things).holds()), verdict)

    def test_told_at_once(self):
        numbers = Numbers(112)
        eight = numbers.table(8, 8, SMALL, GREAT)
        pairs = [(numbers.pick(1, GREAT), numbers.order(8)) for each in range(200)]
        self.asked(False, MixPaper, eight, pairs)
        self.asked(False, MixPaper, eight, [(1, list(range(3000)))] * 200)
        self.asked(True, StepPaper, [7] + [0] * 7, [7] + [0] * 7, [(0, 7, 7), (7, 0, 7)] * 100)
        self.asked(False, LeadPaper, eight[0], eight[1], numbers.even_table(8, 50, GREAT))
        self.asked(False, CutPaper, eight[0], eight[1], eight, eight, list(range(8)), [])
        plain = [[1 if row == column else 0 for column in range(8)] for row in range(8)]
        self.asked(True, SwapPaper, plain, plain, [(0, 0, 7, 7), (0, 7, 7, 0)] * 100)
        self.asked(False, RoundPaper, eight, GREAT, eight)


if __name__ == "__main__":
    unittest.main()
