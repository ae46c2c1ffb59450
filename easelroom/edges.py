"""The edge: numbers as spots of the line (0, 1, 0), reckoned with by joins and meets (points 19 and 20)."""

from easelroom.errors import NoPart, NotOnEdge
from easelroom.plain import is_whole
from easelroom.spots import is_far, lies_on

EDGE_LINE = (0, 1, 0)


def is_on_edge(board, i):
    """Whether a number tells a near spot on the edge of the board."""
    if not is_whole(i) or i < 0 or i >= board.many() or board.kind(i) != "spot":
        return False
    return lies_on(board.told(i), EDGE_LINE) and not is_far(board.told(i))


def binary_figures(number):
    """The binary figures of a number from 0 on, the greatest first."""
    figures = []
    while number > 0:
        figures.append(number % 2)
        number = number // 2
    return list(reversed(figures))


class Edge:
    """An edge laid on a board; what it keeps are numbers of the board's things."""

    def __init__(self, board):
        self.board = board
        self.base = board.take(("join", 0, 1))
        self.upright = board.take(("join", 0, 2))
        self.top = board.take(("join", 2, 3))
        side = board.take(("join", 1, 3))
        slope = board.take(("join", 1, 2))
        self.far_along = board.take(("meet", self.base, self.top))
        self.far_up = board.take(("meet", self.upright, side))
        self.far = board.take(("join", self.far_along, self.far_up))
        self.far_slope = board.take(("meet", slope, self.far))

    def crossed(self, i, j, line):
        """The spot where the join of two spots meets a line."""
        return self.board.take(("meet", self.board.take(("join", i, j)), line))

    def check(self, i, j):
        """Refuses where one is no near spot on the edge."""
        if not is_on_edge(self.board, i) or not is_on_edge(self.board, j):
            raise NotOnEdge("no number of a near spot on the edge")

    def slant(self, i):
        """The far spot of the line from the spot (0, 1, 1) to a spot of the edge."""
        # A line to this far spot goes down by 1 just where it goes along by the number of the spot.
        return self.crossed(2, i, self.far)

    def sum_of(self, i, j):
        """The spot of the sum of two numbers of the edge."""
        self.check(i, j)
        raised = self.crossed(i, self.far_up, self.top)
        return self.crossed(raised, self.slant(j), self.base)

    def less_of(self, i, j):
        """The spot of the first number less the second."""
        self.check(i, j)
        raised = self.crossed(i, self.slant(j), self.top)
        return self.crossed(raised, self.far_up, self.base)

    def times_of(self, i, j):
        """The spot of the product of two numbers of the edge."""
        self.check(i, j)
        turned = self.crossed(j, self.far_slope, self.upright)
        return self.crossed(turned, self.slant(i), self.base)

    def over_of(self, i, j):
        """The spot of the first number over the second."""
        self.check(i, j)
        if self.board.told(j)[0] == 0:
            raise NoPart("nothing is parted by 0")
        turned = self.crossed(i, self.slant(j), self.upright)
        return self.crossed(turned, self.far_slope, self.base)

    def whole(self, number):
        """The spot of a whole number."""
        figures = binary_figures(abs(number))
        if not figures:
            return 0
        found = 1
        for figure in figures[1:]:
            found = self.sum_of(found, found)
            if figure == 1:
                found = self.sum_of(found, 1)
        return found if number > 0 else self.less_of(0, found)
