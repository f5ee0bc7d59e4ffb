"""Swaps of tables of noughts and ones, and those that lead from one table to another."""

from evenmix.errors import NoSwap, NotAlike
from evenmix.rows import places_below
from evenmix.tables import column_of, copied_table, is_place, sums_of_columns, sums_of_rows


def can_swap(table, swap):
    if not is_place(swap[0], len(table)) or not is_place(swap[2], len(table)):
        return False
    first = table[swap[0]]
    second = table[swap[2]]
    if not is_place(swap[1], len(first)) or not is_place(swap[3], len(first)):
        return False
    # The same row twice, or the same column, would have a 1 and a 0 in one cell: so that is out already.
    return first[swap[1]] == second[swap[3]] == 1 and first[swap[3]] == second[swap[1]] == 0


def swap_made(table, swap):
    if not can_swap(table, swap):
        raise NoSwap("this swap can't be made of the table")
    made = copied_table(table)
    made[swap[0]][swap[1]] = 0
    made[swap[0]][swap[3]] = 1
    made[swap[2]][swap[1]] = 1
    made[swap[2]][swap[3]] = 0
    return made


def swaps_between(one, other):
    if sums_of_rows(one) != sums_of_rows(other) or sums_of_columns(one) != sums_of_columns(other):
        raise NotAlike("the tables have unlike sums")
    table = one
    swaps = []
    # A ring of k ones and k noughts is set right by k - 1 swaps: so there are fewer swaps than ones to be moved.
    while table != other:
        ring = ring_between(table, other)
        some = ring_swaps(table, ring[0], ring[1])
        table = table_behind(table, some)
        swaps.extend(some)
    return swaps


def table_behind(table, swaps):
    for swap in swaps:
        table = swap_made(table, swap)
    return table


def ring_between(table, other):
    # The k-th row wants a one in the k-th column, of which the next row has one too much; behind the last row comes
    # the first. As the sums are alike, a row that has a wrong one wants another, and a column likewise: so the walk
    # goes on until it comes back.
    row = first_unlike(table, other)
    rows = []
    columns = []
    while row not in rows:
        column = places_below(table[row], other[row])[0]
        rows.append(row)
        columns.append(column)
        row = places_below(column_of(other, column), column_of(table, column))[0]
    start = rows.index(row)
    return (rows[start:], columns[start:])


def first_unlike(table, other):
    return [row for row in range(len(table)) if table[row] != other[row]][0]


def ring_swaps(table, rows, columns):
    # Each swap takes the first row out of the ring by way of the next row's cell in the last column. Where that is 0
    # the swap can be made at once, and sets it to 1, as the smaller ring needs it. Where it is 1 the smaller ring
    # goes ahead, and sets it to 0, as the swap needs it. So in the end no cells but those of the ring are turned.
    ahead = []
    behind = []
    last = columns[-1]
    for place in range(len(rows) - 1):
        swap = (rows[place], last, rows[place + 1], columns[place])
        if table[rows[place + 1]][last] == 0:
            ahead.append(swap)
        else:
            behind.append(swap)
    return ahead + list(reversed(behind))
