"""What becomes of a cell in all tables of noughts and ones with told sums."""

from evenmix.bounds import table_between
from evenmix.errors import NoPlace, NoSums
from evenmix.ones import ones_with
from evenmix.tables import copied_table, is_place


def fate_of(rows, columns, cell):
    if not is_place(cell[0], len(rows)) or not is_place(cell[1], len(columns)):
        raise NoPlace("there is no such cell")
    if ones_with(rows, columns)[0] != "table":
        raise NoSums("there is no table of ones with these sums")
    noughts = full_table(rows, columns, 0)
    ones = full_table(rows, columns, 1)
    without = table_between(rows, columns, noughts, turned_cell(ones, cell))
    if without[0] == "cut":
        return ("one", without[1], without[2])
    having = table_between(rows, columns, turned_cell(noughts, cell), ones)
    if having[0] == "cut":
        return ("zero", having[1], having[2])
    return ("free", without[1], having[1])


def full_table(rows, columns, number):
    return [[number] * len(columns) for row in rows]


def turned_cell(table, cell):
    turned = copied_table(table)
    turned[cell[0]][cell[1]] = 1 - turned[cell[0]][cell[1]]
    return turned
