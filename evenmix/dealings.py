"""Dealings that lie in marks, or the rows that bar them."""


def dealing_in(marks):
    dealing = [None] * len(marks)
    for row in range(len(marks)):
        short = deal_row(marks, dealing, row)
        if short != []:
            return ("short", short)
    return ("dealing", dealing)


def deal_row(marks, dealing, row):
    # Rows ahead may be dealt other columns than before, to make way; where that doesn't help, some are short.
    rows = [row]
    sources = {}
    reached = 0
    while reached < len(rows):
        source = rows[reached]
        columns = columns_from(marks[source], sources)
        for column in columns:
            sources[column] = source
            if column not in dealing:
                shift_dealing(dealing, sources, column)
                return []
            rows.append(dealing.index(column))
        reached = reached + 1
    # Each column that was reached is dealt to one of these rows, and the first has none: so they are one more.
    return sorted(rows)


def columns_from(line, sources):
    return [column for column in range(len(line)) if line[column] == 1 and column not in sources]


def shift_dealing(dealing, sources, column):
    while column is not None:
        row = sources[column]
        freed = dealing[row]
        dealing[row] = column
        column = freed
