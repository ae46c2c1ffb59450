"""Curves: plain rows of six (points 22, 23 and 26)."""

from easelroom.choosing import has_alike, has_on_line
from easelroom.errors import Alike, FourOnLine
from easelroom.maps import back, flipped, size_of, table_times_row, table_times_table
from easelroom.plain import plain
from easelroom.spots import cross, dot


def worth(curve, spot):
    """The worth of the curve at the spot."""
    x = spot[0]
    y = spot[1]
    z = spot[2]
    squares = curve[0] * x * x + curve[2] * y * y + curve[5] * z * z
    return squares + curve[1] * x * y + curve[3] * x * z + curve[4] * y * z


def is_on_curve(curve, spot):
    """Whether the spot lies on the curve."""
    return worth(curve, spot) == 0


def together(line, other):
    """The six numbers of two lines together, as they come: nothing is taken out."""
    return (
        line[0] * other[0],
        line[0] * other[1] + line[1] * other[0],
        line[1] * other[1],
        line[0] * other[2] + line[2] * other[0],
        line[1] * other[2] + line[2] * other[1],
        line[2] * other[2],
    )


def of_lines(line, other):
    """The curve of two lines together."""
    return plain(together(line, other))


def table_of(curve):
    """The table of the curve."""
    return (
        2 * curve[0], curve[1], curve[3],
        curve[1], 2 * curve[2], curve[4],
        curve[3], curve[4], 2 * curve[5],
    )


def both_sides(table, one, other):
    """What the table comes to with the rows on both sides."""
    return dot(one, table_times_row(table, other))


def is_round(curve):
    """Whether the size of the curve's table is not 0."""
    return size_of(table_of(curve)) != 0


def mixed(spots):
    """Six numbers, not all 0, of the curve of five spots, no two alike and no four on one line."""
    # Both pairs of lines have the first four spots; so much of each is taken that the fifth spot comes to 0.
    first = cross(spots[0], spots[1])
    second = cross(spots[2], spots[3])
    third = cross(spots[0], spots[2])
    last = cross(spots[1], spots[3])
    more = dot(first, spots[4]) * dot(second, spots[4])
    less = dot(third, spots[4]) * dot(last, spots[4])
    return [more * a - less * b for a, b in zip(together(third, last), together(first, second))]


def through(spots):
    """The one curve of five spots."""
    if has_alike(spots):
        raise Alike("two of the five spots are the same")
    if has_on_line(spots, 4):
        raise FourOnLine("four of the five spots lie on one line")
    return plain(mixed(spots))


def carried(by, curve):
    """The curve on which just the spots lie to which the map leads those of the curve."""
    behind = back(by)
    table = table_times_table(flipped(behind), table_times_table(table_of(curve), behind))
    return plain([table[0], 2 * table[1], table[4], 2 * table[2], 2 * table[5], table[8]])
