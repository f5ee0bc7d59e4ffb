"""Tables above a bottom, in least terms."""

from evenmix.errors import NoBottom
from evenmix.tables import is_number


def check_bottom(bottom):
    if not is_number(bottom) or bottom < 1:
        raise NoBottom("a bottom is a number from 1 on")


def greatest_divisor(one, other):
    while other != 0:
        rest = one % other
        one = other
        other = rest
    return one


def divisor_of(table, bottom):
    divisor = bottom
    for row in table:
        for cell in row:
            divisor = greatest_divisor(divisor, abs(cell))
    return divisor


def divided_row(row, divisor):
    return [cell // divisor for cell in row]


def least_terms(table, bottom=1):
    check_bottom(bottom)
    divisor = divisor_of(table, bottom)
    return ([divided_row(row, divisor) for row in table], bottom // divisor)
