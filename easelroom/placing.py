"""Drawings placed by spots (points 35 and 36)."""

from easelroom.choosing import has_alike, has_on_line
from easelroom.curves import through
from easelroom.drawings import free_rows
from easelroom.errors import EaselError, Stuck
from easelroom.poles import line_about, other_end, spot_about
from easelroom.spots import CORNERS, join, meet, spot_at


def made_by_row(row, things):
    """The thing of a row that is not free, by the things of the rows ahead."""
    told = [things[k] for k in row[1:]]
    if row[0] == "join":
        return join(told[0], told[1])
    if row[0] == "meet":
        return meet(told[0], told[1])
    if row[0] == "curve":
        return through(told)
    if row[0] == "about":
        return line_about(told[0], told[1])
    if row[0] == "pole":
        return spot_about(told[0], told[1])
    return other_end(told[0], told[1], join(told[1], told[2]))


def placed(rows, spots):
    """The things of the drawing, placed by a spot for each free row."""
    things = []
    free = 0
    for k, row in enumerate(rows):
        if row[0] == "free":
            things.append(spots[free])
            free = free + 1
        else:
            try:
                made = made_by_row(row, things)
            except EaselError:
                raise Stuck(k)
            things.append(made)
    return things


def is_of_kind(rows, spots):
    """Whether the placing is of the kind of the drawing."""
    first = spots[:len(free_rows(rows)[:4])]
    return not has_alike(first) and not has_on_line(first, 3)


def standing(rows, numbers):
    """The standing placing of two numbers for each free row behind the fourth."""
    many = len(free_rows(rows))
    behind = [spot_at(numbers[2 * k], numbers[2 * k + 1]) for k in range(many - 4)]
    return list(CORNERS[:many]) + behind
