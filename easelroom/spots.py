"""Spots and lines of the floor, both plain rows of three (points 5 to 7)."""

from easelroom.errors import Alike
from easelroom.plain import plain

FAR_LINE = (0, 0, 1)

CORNERS = ((0, 0, 1), (1, 0, 1), (0, 1, 1), (1, 1, 1))


def spot_at(x, y):
    """The spot that stands at x, y of the floor."""
    return (x, y, 1)


def is_far(spot):
    """Whether the spot lies on the far line."""
    return spot[2] == 0


def dot(one, other):
    """The dot of two rows of three."""
    return one[0] * other[0] + one[1] * other[1] + one[2] * other[2]


def cross(one, other):
    """The cross of two rows of three, as it comes: nothing is taken out."""
    return (
        one[1] * other[2] - one[2] * other[1],
        one[2] * other[0] - one[0] * other[2],
        one[0] * other[1] - one[1] * other[0],
    )


def turn(one, other, third):
    """The turn of three rows of three: 0 just where they lie on one line."""
    return dot(cross(one, other), third)


def lies_on(spot, line):
    """Whether the spot lies on the line."""
    return dot(spot, line) == 0


def share_one(rows):
    """Whether there is a plain row whose dot with each of these plain rows is 0."""
    # Rows like the first one ask nothing new: only with an unlike one the shared row is settled.
    unlike = [row for row in rows if row != rows[0]]
    if not unlike:
        return True
    shared = cross(rows[0], unlike[0])
    return all([dot(shared, row) == 0 for row in unlike])


def on_line(spots):
    """Whether some line has all of the spots."""
    return share_one(spots)


def through_spot(lines):
    """Whether some spot lies on all of the lines."""
    return share_one(lines)


def plain_cross(one, other):
    """The cross of two plain rows made plain; refused where they are the same."""
    if one == other:
        raise Alike("both are the same")
    return plain(cross(one, other))


def join(one, other):
    """The line on which both spots lie."""
    return plain_cross(one, other)


def meet(one, other):
    """The spot that lies on both lines."""
    return plain_cross(one, other)
