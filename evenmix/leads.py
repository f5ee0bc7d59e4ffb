"""Even tables that lead from one row to another."""

from evenmix.steps import step_made, steps_to
from evenmix.terms import least_terms


def lead_to(one, other):
    told = steps_to(one, other)
    if told[0] == "bar":
        return told
    table = plain_table(len(other))
    row = other
    for step in told[1]:
        table = led_table(table, row, step)
        row = step_made(row, step)
    return ("table", table)


def plain_table(many):
    return [plain_row(many, place) for place in range(many)]


def plain_row(many, one):
    return [1 if place == one else 0 for place in range(many)]


def led_table(table, row, step):
    giver = step[0]
    taker = step[1]
    whole = row[giver] - row[taker]
    kept = whole - step[2]
    led = [mixed_row(line, whole, line, 0) for line in table]
    led[giver] = mixed_row(table[giver], kept, table[taker], step[2])
    led[taker] = mixed_row(table[taker], kept, table[giver], step[2])
    # Each step makes the bottom greater by a factor: in least terms the numbers don't grow more than they must.
    return least_terms(led, sum(led[0]))[0]


def mixed_row(one, parts, other, others):
    return [parts * one[place] + others * other[place] for place in range(len(one))]
