"""Any spot reached from the corners by joins and meets (point 21)."""

from easelroom.boards import Board
from easelroom.edges import Edge


def reach_at(edge, along, up):
    """The near spot over one number of the edge, as high as another one."""
    board = edge.board
    turned = edge.crossed(up, edge.far_slope, edge.upright)
    level = board.take(("join", turned, edge.far_along))
    return edge.crossed(along, edge.far_up, level)


def reach(edge, spot):
    """The number of the spot on the edge's board, reached by steps."""
    along = edge.whole(spot[0])
    up = edge.whole(spot[1])
    if spot[2] == 0:
        # A far spot is where the line from the first corner to the near spot of the same first two numbers ends.
        return edge.crossed(0, reach_at(edge, along, up), edge.far)
    under = edge.whole(spot[2])
    return reach_at(edge, edge.over_of(along, under), edge.over_of(up, under))


def reached(spot):
    """The steps from the corners to the spot."""
    board = Board()
    reach(Edge(board), spot)
    return board.steps()
