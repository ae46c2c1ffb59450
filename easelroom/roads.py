"""Roads of six spots and their crossings (point 27)."""

from easelroom.choosing import has_on_line
from easelroom.errors import Alike, ThreeOnLine
from easelroom.spots import join, meet, on_line


def check_five(spots):
    """Refuses five spots of which three lie on one line."""
    if has_on_line(spots, 3):
        raise ThreeOnLine("three of the five spots lie on one line")


def crossings(road):
    """The three crossings of the road's sides."""
    check_five(road[:5])
    if road[5] == road[0] or road[5] == road[4]:
        raise Alike("the sixth spot is the first or the fifth")
    sides = [join(road[k], road[(k + 1) % 6]) for k in range(6)]
    return [meet(sides[k], sides[k + 3]) for k in range(3)]


def is_closed(road):
    """Whether the crossings lie on one line."""
    return on_line(crossings(road))
