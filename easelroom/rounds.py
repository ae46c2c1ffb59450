"""Other ends and touching lines of the curve of five spots, by straight edge (point 28)."""

from easelroom.errors import NotOn
from easelroom.roads import check_five
from easelroom.spots import lies_on

# A road of the five spots and the other end is closed. Its first crossing and the second, on the given side,
# tell the third one, and that the sixth side. No three of the five lie on one line, so each step can be done,
# also where the other end is one of the five.
OTHER_STEPS = (
    ("join", 0, 1), ("join", 3, 4), ("meet", 6, 7),
    ("join", 1, 2), ("meet", 9, 5), ("join", 8, 10),
    ("join", 2, 3), ("meet", 11, 12), ("join", 0, 13), ("meet", 14, 5),
)

# The same road with the fifth spot as the sixth one too: its fifth side is the touching line.
TOUCHING_STEPS = (
    ("join", 0, 1), ("join", 3, 4), ("meet", 5, 6),
    ("join", 2, 3), ("join", 4, 0), ("meet", 8, 9),
    ("join", 7, 10), ("join", 1, 2), ("meet", 11, 12), ("join", 4, 13),
)


def other_by_edge(spots, line):
    """The steps to the other end, on the curve of the five spots, of a line through the fifth."""
    check_five(spots)
    if not lies_on(spots[4], line):
        raise NotOn("the fifth spot does not lie on the line")
    return list(OTHER_STEPS)


def touching_by_edge(spots):
    """The steps to the touching line, at the fifth spot, of the curve of the five spots."""
    check_five(spots)
    return list(TOUCHING_STEPS)
