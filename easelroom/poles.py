"""Lines and spots about a curve, touching lines and other ends (points 24 and 25)."""

from easelroom.curves import both_sides, is_on_curve, is_round, table_of
from easelroom.errors import InCurve, Knot, NotOn, NotRound
from easelroom.maps import table_times_row, tiles, turned
from easelroom.plain import plain
from easelroom.spots import lies_on, meet


def plain_or_none(numbers):
    """The plain row of the numbers; None of noughts alone."""
    return plain(numbers) if any([number != 0 for number in numbers]) else None


def line_about(curve, spot):
    """The line of the spot about the curve."""
    line = plain_or_none(table_times_row(table_of(curve), spot))
    if line is None:
        raise Knot("the spot has no line about the curve")
    return line


def spot_about(curve, line):
    """The spot of which the line is the line about the round curve."""
    if not is_round(curve):
        raise NotRound("the curve is not round")
    # The turned table of a table that is the same turned over undoes it, but for the size as a factor.
    return plain(table_times_row(turned(table_of(curve)), line))


def touching(curve, spot):
    """The touching line of a spot of the curve."""
    if not is_on_curve(curve, spot):
        raise NotOn("the spot does not lie on the curve")
    return line_about(curve, spot)


def another_spot(line, spot):
    """A spot of the line unlike the spot."""
    # Three lines that do not go through one spot meet the line at two unlike spots at least.
    met = [meet(line, side) for side in tiles()[:3] if side != line]
    return [found for found in met if found != spot][0]


def other_end(curve, spot, line):
    """The other end, on the curve, of a line through a spot of it."""
    if not is_on_curve(curve, spot) or not lies_on(spot, line):
        raise NotOn("the spot does not lie on curve and line")
    table = table_of(curve)
    another = another_spot(line, spot)
    own = both_sides(table, another, another)
    shared = 2 * both_sides(table, spot, another)
    # Of all spots of the line, these shares of the two make the one, besides the spot, at which the table comes to 0.
    end = plain_or_none([own * a - shared * b for a, b in zip(spot, another)])
    if end is None:
        raise InCurve("all spots of the line lie on the curve")
    return end
