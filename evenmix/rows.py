"""Rows of numbers: falling, their heads, and what bars one from being more even."""

from evenmix.errors import NotAlike


def falling(row):
    return sorted(row, reverse=True)


def falling_places(row):
    return sorted(range(len(row)), key=lambda place: -row[place])


def places_below(one, other):
    return [place for place in range(len(one)) if one[place] < other[place]]


def less_row(one, other):
    return [one[place] - other[place] for place in range(len(one))]


def heads_of(row):
    heads = []
    head = 0
    for number in falling(row):
        head = head + number
        heads.append(head)
    return heads


def check_alike(one, other):
    if len(one) != len(other):
        raise NotAlike("the rows are not as long")
    if sum(one) != sum(other):
        raise NotAlike("the rows come to unlike sums")


def first_head_above(one, other):
    above = places_below(heads_of(other), heads_of(one))
    if above == []:
        return None
    return above[0] + 1


def bar_of(one, other):
    check_alike(one, other)
    return first_head_above(one, other)
