"""Tables of whole numbers: their making, their sums, turned, and times a row."""

from evenmix.errors import NoTable

MOST = 8


def is_number(thing):
    # Python counts True and False among the ints; here they are no numbers.
    return isinstance(thing, int) and not isinstance(thing, bool)


def is_row(thing):
    if not isinstance(thing, list) or not 1 <= len(thing) <= MOST:
        return False
    return all([is_number(number) for number in thing])


def is_table(thing):
    if not isinstance(thing, list) or not 1 <= len(thing) <= MOST:
        return False
    # Lengths are asked only once all are rows: what is no row may have none.
    if not all([is_row(row) for row in thing]):
        return False
    return all([len(row) == len(thing[0]) for row in thing])


def is_place(number, many):
    # Python counts places below 0 from the end; here there are none.
    return 0 <= number < many


def copied_table(table):
    return [list(row) for row in table]


def table_of(things):
    if not is_table(things):
        raise NoTable("a table is a list of one to eight rows of numbers, all as long")
    return copied_table(things)


def sums_of_rows(table):
    return [sum(row) for row in table]


def sums_of_columns(table):
    return sums_of_rows(turned_table(table))


def turned_table(table):
    return [column_of(table, place) for place in range(len(table[0]))]


def column_of(table, place):
    return [row[place] for row in table]


def times_row(table, row):
    return [product_of(line, row) for line in table]


def product_of(one, other):
    return sum([one[place] * other[place] for place in range(len(one))])
