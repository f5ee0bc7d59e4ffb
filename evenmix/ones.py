"""Tables of noughts and ones with told sums, or the rows or columns that want too much; the heap of sums."""

from evenmix.rows import falling_places, first_head_above, less_row


def heap_of(sums, many):
    return [how_many_reach(sums, level) for level in range(1, many + 1)]


def how_many_reach(sums, level):
    return len([number for number in sums if number >= level])


def is_ones(table):
    return all([min(row) >= 0 and max(row) <= 1 for row in table])


def ones_with(rows, columns):
    if sum(rows) < sum(columns):
        return ("columns", list(range(len(columns))))
    # The heap's head of k numbers is what k rows can have at most: of each column its sum, or k where that is less.
    many = first_head_above(rows, heap_of(columns, len(rows)))
    if many is not None:
        return ("rows", sorted(falling_places(rows)[:many]))
    return ("table", filled_table(rows, columns))


def filled_table(rows, columns):
    # Each row takes of the columns that still want most, so that what is left can be filled too.
    left = columns
    table = []
    for number in rows:
        row = row_of_ones(falling_places(left)[:number], len(left))
        left = less_row(left, row)
        table.append(row)
    return table


def row_of_ones(places, many):
    return [1 if place in places else 0 for place in range(many)]
