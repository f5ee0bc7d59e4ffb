"""Even tables, and the mixtures of dealings that tell them."""

from evenmix.dealings import dealing_in
from evenmix.errors import NoMix, NotEven
from evenmix.tables import MOST, copied_table, sums_of_columns, sums_of_rows


def is_even(table):
    if len(table[0]) != len(table):
        return False
    if any([min(row) < 0 for row in table]):
        return False
    sums = sums_of_rows(table) + sums_of_columns(table)
    return sums[0] >= 1 and all([number == sums[0] for number in sums])


def is_mixture(pairs):
    if pairs == []:
        return False
    many = len(pairs[0][1])
    return 1 <= many <= MOST and all([is_pair(pair, many) for pair in pairs])


def is_pair(pair, many):
    # The length goes ahead: a list however long need not be sorted then.
    return pair[0] >= 1 and len(pair[1]) == many and sorted(pair[1]) == list(range(many))


def told_by(pairs):
    if not is_mixture(pairs):
        raise NoMix("a mixture is a list of pairs of parts from 1 on and dealings, all as long")
    many = len(pairs[0][1])
    table = [[0] * many for row in range(many)]
    for pair in pairs:
        add_dealing(table, pair[0], pair[1])
    return table


def add_dealing(table, parts, dealing):
    for row in range(len(dealing)):
        table[row][dealing[row]] = table[row][dealing[row]] + parts


def mixture_of(table):
    if not is_even(table):
        raise NotEven("the table is not even")
    left = copied_table(table)
    pairs = []
    # What is left stays even until it is all noughts, so a dealing lies in it. Each takes all that it can: a cell
    # becomes 0 that no dealing behind it has. So none is made up of those behind, and of such there are few enough.
    while sum(left[0]) > 0:
        dealing = dealing_in(marks_of(left))[1]
        parts = min([left[row][dealing[row]] for row in range(len(left))])
        add_dealing(left, -parts, dealing)
        pairs.append((parts, dealing))
    return pairs


def marks_of(table):
    return [marked_row(row) for row in table]


def marked_row(row):
    return [1 if cell > 0 else 0 for cell in row]
