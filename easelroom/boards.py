"""Boards: spots and lines found from the corners by joins and meets (point 18)."""

from easelroom.errors import Stuck
from easelroom.plain import is_whole
from easelroom.spots import CORNERS, join, meet

NEEDED = {"join": "spot", "meet": "line"}


def is_number_of(things, number, kind):
    """Whether any thing is the number of a thing of the kind."""
    return is_whole(number) and 0 <= number < len(things) and things[number][0] == kind


def can_be_done(things, step):
    """Whether any thing is a step that can be done with these things."""
    if not isinstance(step, tuple) or len(step) != 3:
        return False
    if not isinstance(step[0], str) or step[0] not in NEEDED:
        return False
    kind = NEEDED[step[0]]
    if not is_number_of(things, step[1], kind) or not is_number_of(things, step[2], kind):
        return False
    return things[step[1]] != things[step[2]]


def made_by(things, step):
    """The thing that a step makes which can be done."""
    one = things[step[1]][1]
    other = things[step[2]][1]
    if step[0] == "join":
        return ("line", join(one, other))
    return ("spot", meet(one, other))


class Board:
    """A board: its things, numbered from 0, the corners first, and the steps that made the others."""

    def __init__(self):
        self.things = [("spot", corner) for corner in CORNERS]
        self.done = []

    def take(self, step):
        """Does a step; the number of the thing it adds."""
        if not can_be_done(self.things, step):
            raise Stuck(len(self.done))
        self.things.append(made_by(self.things, step))
        self.done.append(step)
        return len(self.things) - 1

    def many(self):
        """How many things there are."""
        return len(self.things)

    def kind(self, i):
        """The kind of a thing: spot or line."""
        return self.things[i][0]

    def told(self, i):
        """The three numbers of a thing."""
        return self.things[i][1]

    def steps(self):
        """The steps done, in order."""
        return list(self.done)


def walked(steps):
    """All things of a new board on which the steps are done."""
    board = Board()
    for step in steps:
        board.take(step)
    return [(board.kind(i), board.told(i)) for i in range(board.many())]
