"""Tables with told sums between bounds, or the cut that bars them all."""

from evenmix.errors import NoBounds
from evenmix.rows import less_row, places_below
from evenmix.tables import copied_table, sums_of_columns, sums_of_rows, turned_table


def table_between(rows, columns, low, high):
    check_bounds(low, high)
    if sum(rows) != sum(columns):
        return ("unlike", sum(rows), sum(columns))
    return Filling(rows, columns, low, high).outcome()


def most_in_cut(columns, low, high, some, others):
    # In others' columns the rows in some have what the lows of the other rows leave them, elsewhere up to the highs.
    most = sum([columns[column] for column in others])
    for row in range(len(low)):
        if row in some:
            most = most + sum([high[row][column] for column in range(len(columns)) if column not in others])
        else:
            most = most - sum([low[row][column] for column in others])
    return most


def check_bounds(low, high):
    if any([places_below(high[row], low[row]) != [] for row in range(len(low))]):
        raise NoBounds("a low is above the high of its cell")


# A table that is filled up from the lows: what its rows still want, what room its columns still have.
class Filling:
    def __init__(self, rows, columns, low, high):
        self.low = low
        self.high = high
        self.table = copied_table(low)
        self.wants = less_row(rows, sums_of_rows(low))
        self.rooms = less_row(columns, sums_of_columns(low))

    def outcome(self):
        if min(self.rooms) < 0:
            return ("cut", [], [self.rooms.index(min(self.rooms))])
        # Wants and rooms come to the same, so all is filled once no row wants more: a row whose lows come to too
        # much already is made up for by others that want more than there is room, and they end at a cut.
        while max(self.wants) > 0:
            reach = Reach(self)
            if reach.goal is None:
                return ("cut", sorted(reach.rows), sorted(reach.columns))
            self.pour(reach.way())
        return ("table", self.table)

    def pour(self, way):
        # Cells of a way are raised and lowered by turns, so that the sums of all between its ends stay.
        goal = way[0][1]
        start = way[-1][0]
        amount = min([self.wants[start], self.rooms[goal]] + [self.slack(way, step) for step in range(len(way))])
        for step in range(len(way)):
            row = self.table[way[step][0]]
            row[way[step][1]] = row[way[step][1]] + (amount if step % 2 == 0 else -amount)
        self.wants[start] = self.wants[start] - amount
        self.rooms[goal] = self.rooms[goal] - amount

    def slack(self, way, step):
        row = way[step][0]
        column = way[step][1]
        if step % 2 == 0:
            return self.high[row][column] - self.table[row][column]
        return self.table[row][column] - self.low[row][column]


# What can be reached from the rows that want more: columns by cells that can be raised, rows by cells that can be
# lowered. It is walked in breadth, so ways have as few steps as can be: then the rounds don't grow with the numbers.
class Reach:
    def __init__(self, filling):
        self.rows = {}
        self.columns = {}
        self.goal = None
        raising = ways_up(filling.table, filling.high)
        lowering = ways_up(turned_table(filling.low), turned_table(filling.table))
        layer = places_below([0] * len(filling.wants), filling.wants)
        for row in layer:
            self.rows[row] = None
        while layer != [] and self.goal is None:
            fresh = spread(layer, raising, self.columns)
            self.goal = first_with_room(fresh, filling.rooms)
            layer = spread(fresh, lowering, self.rows)

    def way(self):
        cells = []
        column = self.goal
        while column is not None:
            row = self.columns[column]
            cells.append((row, column))
            column = self.rows[row]
            if column is not None:
                cells.append((row, column))
        return cells


def ways_up(lesser, greater):
    return [places_below(lesser[place], greater[place]) for place in range(len(lesser))]


def spread(layer, ways, reached):
    fresh = []
    for source in layer:
        for place in ways[source]:
            if place not in reached:
                reached[place] = source
                fresh.append(place)
    return fresh


def first_with_room(columns, rooms):
    free = [column for column in columns if rooms[column] > 0]
    return free[0] if free != [] else None
