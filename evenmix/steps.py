"""Steps that make a row more even, and those that lead from one row to another."""

from evenmix.errors import NoStep
from evenmix.rows import bar_of, falling, falling_places, places_below
from evenmix.tables import is_place


def can_step(row, step):
    giver = step[0]
    taker = step[1]
    if not is_place(giver, len(row)) or not is_place(taker, len(row)):
        return False
    # Where giver and taker are the same, the difference is 0 and lets no amount through.
    return 1 <= step[2] <= row[giver] - row[taker]


def step_made(row, step):
    if not can_step(row, step):
        raise NoStep("this step can't be made of the row")
    made = list(row)
    made[step[0]] = made[step[0]] - step[2]
    made[step[1]] = made[step[1]] + step[2]
    return made


def steps_to(one, other):
    bar = bar_of(one, other)
    if bar is not None:
        return ("bar", bar)
    steps = evening_steps(one, other)
    return ("steps", steps + exchanges_to(one, row_behind(other, steps)))


def row_behind(row, steps):
    for step in steps:
        row = step_made(row, step)
    return row


def evening_steps(one, other):
    # Both are compared falling, and stay so: each step sets one number right for good, the last one two.
    # So these are at most one fewer than the numbers.
    places = falling_places(other)
    goals = falling(one)
    numbers = falling(other)
    steps = []
    while numbers != goals:
        step = evening_step(goals, numbers)
        numbers = step_made(numbers, step)
        steps.append((places[step[0]], places[step[1]], step[2]))
    return steps


def evening_step(goals, numbers):
    # The last giver and the nearest taker behind it: all between are right, so the numbers stay falling.
    giver = places_below(goals, numbers)[-1]
    taker = min([place for place in places_below(numbers, goals) if place > giver])
    return (giver, taker, min(numbers[giver] - goals[giver], goals[taker] - numbers[taker]))


def exchanges_to(one, row):
    # The numbers are those of the one row: what remains is their order, at most one exchange for each but the last.
    steps = []
    for place in range(len(one)):
        if row[place] != one[place]:
            step = exchange_step(row, place, row.index(one[place], place + 1))
            row = step_made(row, step)
            steps.append(step)
    return steps


def exchange_step(row, place, second):
    if row[place] > row[second]:
        return (place, second, row[place] - row[second])
    return (second, place, row[second] - row[place])
