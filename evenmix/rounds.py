"""Tables above a bottom, rounded so that all their sums are rounded too."""

from evenmix.bounds import table_between
from evenmix.tables import sums_of_columns
from evenmix.terms import check_bottom, divided_row


def rounded_table(table, bottom):
    check_bottom(bottom)
    # With a border all sums are 0: so the sums are rounded as the border's cells are. The fractions themselves lie
    # between these bounds, and where fractions do, whole numbers do too: so a table is told, and never a cut.
    goals = bordered_table(table)
    low = [divided_row(row, bottom) for row in goals]
    high = [raised_row(row, bottom) for row in goals]
    told = table_between([0] * len(goals), [0] * len(goals[0]), low, high)
    return [row[:-1] for row in told[1][:-1]]


def bordered_table(table):
    wider = [row + [-sum(row)] for row in table]
    return wider + [[-number for number in sums_of_columns(wider)]]


def raised_row(row, bottom):
    return [-(-cell // bottom) for cell in row]


def is_rounded(table, bottom, whole):
    if len(whole) != len(table) or len(whole[0]) != len(table[0]):
        return False
    goals = bordered_table(table)
    wholes = bordered_table(whole)
    return all([is_near(goals[place], bottom, wholes[place]) for place in range(len(goals))])


def is_near(goals, bottom, wholes):
    # Nothing differs by less than a bottom of 0 or below: so such a one is out already.
    return all([abs(wholes[place] * bottom - goals[place]) < bottom for place in range(len(goals))])
