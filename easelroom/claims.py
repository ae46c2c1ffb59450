"""Claims on drawings (point 37)."""

from easelroom.curves import both_sides, is_on_curve, is_round, table_of
from easelroom.drawings import are_of_sorts, begins_with_word, sort_of, sorts_of
from easelroom.maps import turned
from easelroom.spots import lies_on, on_line, through_spot

CLAIMED = {
    "same": (("spot", "spot"), ("line", "line"), ("curve", "curve")),
    "on": (("spot", "line"), ("spot", "curve")),
    "row": (("spot", "spot", "spot"),),
    "bunch": (("line", "line", "line"),),
    "touch": (("line", "curve"),),
    "parted": (("curve",),),
}


def is_claim(rows, thing):
    """Whether any thing is a claim on the drawing."""
    if not begins_with_word(thing, list(CLAIMED)):
        return False
    sorts = sorts_of(rows)
    return any([are_of_sorts(sorts, thing[1:], due) for due in CLAIMED[thing[0]]])


def touches(line, curve):
    """Whether the line touches the curve."""
    return both_sides(turned(table_of(curve)), line, line) == 0


def holds(rows, things, claim):
    """Whether the claim holds of things, one for each row of the drawing."""
    told = [things[k] for k in claim[1:]]
    if claim[0] == "same":
        return told[0] == told[1]
    if claim[0] == "on":
        if sort_of(rows, claim[2]) == "line":
            return lies_on(told[0], told[1])
        return is_on_curve(told[1], told[0])
    if claim[0] == "row":
        return on_line(told)
    if claim[0] == "bunch":
        return through_spot(told)
    if claim[0] == "touch":
        return touches(told[0], told[1])
    return not is_round(told[0])
