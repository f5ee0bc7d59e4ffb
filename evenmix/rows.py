"""Rows of numbers: falling, their heads, and what bars one from being more even."""

from evenmix.errors import NotAlike


def falling(row):
    return sorted(row, reverse=True)


def heads_of(row):
    heads = []
    head = 0
    for number in falling(row):
        head = head + number
        heads.append(head)
    return heads


def check_alike(one, other):
    if len(one) != len(other):
        raise NotAlike("the rows are not as long")
    if sum(one) != sum(other):
        raise NotAlike("the rows come to unlike sums")


def bar_of(one, other):
    check_alike(one, other)
    heads = heads_of(one)
    limits = heads_of(other)
    for place in range(len(heads)):
        if heads[place] > limits[place]:
            return place + 1
    return None
