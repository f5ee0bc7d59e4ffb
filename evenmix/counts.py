"""How many tables of noughts and ones have told sums, how many have a one in each cell, and each one's number."""

from evenmix.errors import NoNumber, TooGreat
from evenmix.rows import less_row
from evenmix.tables import is_number, sums_of_columns, sums_of_rows

MOST_COUNTED = 5


def check_size(rows, columns):
    if len(rows) > MOST_COUNTED or len(columns) > MOST_COUNTED:
        raise TooGreat("tables are counted for at most five rows and five columns")


# Ways to fill rows are counted one row behind the other, by what the columns still want: all tables would be millions.
class Tally:
    def __init__(self, rows, width):
        self.choices = [lines_with(number, width) for number in rows]
        self.known = {}

    def ways(self, done, left):
        if min(left) < 0 or max(left) > len(self.choices) - done:
            return 0
        if done == len(self.choices):
            return 1
        # The order of the columns makes no difference to how many ways there are: so fewer need be found.
        want = (done, tuple(sorted(left)))
        if want not in self.known:
            self.known[want] = sum([self.ways(done + 1, less_row(left, line)) for line in self.choices[done]])
        return self.known[want]

    def ahead(self, done, left, line):
        lesser = [choice for choice in self.choices[done] if choice < line]
        return sum([self.ways(done + 1, less_row(left, choice)) for choice in lesser])


def lines_with(number, width):
    return [line for line in all_lines(width) if sum(line) == number]


def all_lines(width):
    # The numbers of tables go by the order of lists, so these come in it.
    lines = [[]]
    for place in range(width):
        lines = [[0] + line for line in lines] + [[1] + line for line in lines]
    return lines


def count_of(rows, columns):
    check_size(rows, columns)
    return Tally(rows, len(columns)).ways(0, columns)


def shares_of(rows, columns):
    check_size(rows, columns)
    return [shares_in_row(rows, columns, row) for row in range(len(rows))]


def shares_in_row(rows, columns, row):
    # The order of the rows makes no difference to how many tables there are: so this one goes first.
    tally = Tally(rows[:row] + rows[row + 1:], len(columns))
    shares = [0] * len(columns)
    for line in lines_with(rows[row], len(columns)):
        ways = tally.ways(0, less_row(columns, line))
        shares = [shares[place] + ways * line[place] for place in range(len(columns))]
    return shares


def ones_at(rows, columns, number):
    check_size(rows, columns)
    tally = Tally(rows, len(columns))
    if not is_number(number) or not 0 <= number < tally.ways(0, columns):
        raise NoNumber("there is no table of this number")
    left = columns
    table = []
    for done in range(len(rows)):
        # The last that has not too many tables ahead: so one that no table has is passed over, as the next has as many.
        line = [choice for choice in tally.choices[done] if tally.ahead(done, left, choice) <= number][-1]
        number = number - tally.ahead(done, left, line)
        left = less_row(left, line)
        table.append(line)
    return table


def number_of(table):
    left = sums_of_columns(table)
    check_size(table, left)
    tally = Tally(sums_of_rows(table), len(left))
    number = 0
    for done in range(len(table)):
        number = number + tally.ahead(done, left, table[done])
        left = less_row(left, table[done])
    return number
