"""Maps: plain rows of nine, read as tables of three rows of three (points 8 to 10)."""

from easelroom.errors import NoMap, NotFree
from easelroom.plain import is_plain, plain
from easelroom.spots import cross, dot, turn

STAY = (1, 0, 0, 0, 1, 0, 0, 0, 1)

TILES = ((1, 0, 0), (0, 1, 0), (0, 0, 1), (1, 1, 1))


def rows_of(table):
    """The three rows of a table of nine numbers."""
    return [table[0:3], table[3:6], table[6:9]]


def size_of(numbers):
    """The size of any nine numbers."""
    rows = rows_of(numbers)
    return turn(rows[0], rows[1], rows[2])


def is_map(thing):
    """Whether any thing is a map."""
    return is_plain(thing, 9) and size_of(thing) != 0


def map_of(numbers):
    """The map made of nine numbers."""
    made = plain(numbers)
    if size_of(made) == 0:
        raise NoMap("the size is 0")
    return made


def table_times_row(table, row):
    """The dots of the table's rows and the row."""
    return [dot(part, row) for part in rows_of(table)]


def flipped(table):
    """The table turned over: rows as columns."""
    return [table[3 * (k % 3) + k // 3] for k in range(9)]


def table_times_table(one, other):
    """The table that does to any row what the other one and then this one do."""
    columns = rows_of(flipped(other))
    numbers = []
    for row in rows_of(one):
        numbers.extend([dot(row, column) for column in columns])
    return numbers


def turned(table):
    """The turned table: of the rows r, s, t it has the rows s cross t, t cross r, r cross s."""
    rows = rows_of(table)
    return cross(rows[1], rows[2]) + cross(rows[2], rows[0]) + cross(rows[0], rows[1])


def led(by, spot):
    """The spot to which the map leads the spot."""
    return plain(table_times_row(by, spot))


def led_line(by, line):
    """The line on which just the led spots of the line lie."""
    # The turned table undoes the map within the dot of spot and line, but for the size as a factor.
    return plain(table_times_row(turned(by), line))


def then(one, other):
    """The map that does one, then other."""
    return plain(table_times_table(other, one))


def back(by):
    """The map that leaves each spot where it was, behind the map and ahead of it."""
    return plain(flipped(turned(by)))


def tiles():
    """The four tiles, in their order."""
    return list(TILES)


def are_free(four):
    """Whether no three of the four spots lie on one line."""
    turns = [
        turn(four[0], four[1], four[2]),
        turn(four[0], four[1], four[3]),
        turn(four[0], four[2], four[3]),
        turn(four[1], four[2], four[3]),
    ]
    return 0 not in turns


def from_tiles(four):
    """The map that leads the tiles to four free spots."""
    # Any factors of the first three spots as columns lead three tiles right;
    # these ones bring the columns' sum, where the last tile goes, to the last spot.
    factors = table_times_row(turned(four[0] + four[1] + four[2]), four[3])
    return plain([factors[k % 3] * four[k % 3][k // 3] for k in range(9)])


def map_between(four, others):
    """The one map that leads each of four free spots to the one of the others at its place."""
    if not are_free(four) or not are_free(others):
        raise NotFree("three of the four spots lie on one line")
    return then(back(from_tiles(four)), from_tiles(others))
