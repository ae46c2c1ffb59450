"""Point 2: what is handed in stays as it was, and what is told is the asker's own."""

import copy
import unittest

from easelroom.boards import Board, walked
from easelroom.claims import holds, is_claim
from easelroom.curves import of_lines, through
from easelroom.drawings import free_rows, is_drawing
from easelroom.edges import Edge
from easelroom.errors import EaselError
from easelroom.forms import form, kind_of, leading
from easelroom.letters import is_sum
from easelroom.maps import are_free, is_map, map_between, map_of, size_of, tiles
from easelroom.pictures import apart, map_to
from easelroom.placing import is_of_kind, placed, standing
from easelroom.plain import divisor, is_plain, plain
from easelroom.raws import claim_sums, free_thing, raw
from easelroom.reaching import reach, reached
from easelroom.roads import crossings, is_closed
from easelroom.rounds import other_by_edge, touching_by_edge
from easelroom.spots import on_line, through_spot

LINE = [(0, 0, 1), (0, 0, 1), (1, 2, 1), (1, 2, 0), (0, 0, 1)]
FREE = [(0, 0, 1), (1, 0, 1), (0, 1, 1), (1, 1, 1)]
ROWS = [("free",), ("free",), ("free",), ("free",), ("join", 0, 1), ("join", 2, 3), ("meet", 4, 5)]
BOUND = [(0, 0, 1), (1, 0, 1), (2, 0, 1), (1, 1, 1)]

CALLS = [
    (divisor, [[0, -4, 6, 0]]),
    (divisor, [[0, 0]]),
    (plain, [[0, -4, 6, 0]]),
    (plain, [[0, 4, -6, 0]]),
    (plain, [[0, 0]]),
    (is_plain, [[0, -4, 6], 3]),
    (is_plain, [[[1], [None, [True]]], 2]),
    (on_line, [LINE]),
    (on_line, [FREE]),
    (on_line, [[]]),
    (through_spot, [LINE]),
    (through_spot, [FREE]),
    (size_of, [[2, 4, 6, 8, 1, 3, 5, 7, 9]]),
    (is_map, [[2, 4, 6, 8, 1, 3, 5, 7, 9]]),
    (map_of, [[-2, 0, 0, 0, -4, 0, 0, 0, -2]]),
    (map_of, [[0] * 9]),
    (map_of, [[1] * 9]),
    (are_free, [FREE]),
    (are_free, [BOUND]),
    (map_between, [FREE, [FREE[1], FREE[0], FREE[2], FREE[3]]]),
    (map_between, [FREE, BOUND]),
    (map_between, [BOUND, FREE]),
    (kind_of, [FREE]),
    (kind_of, [LINE]),
    (form, [FREE + LINE]),
    (form, [LINE]),
    (form, [LINE[:3]]),
    (form, [[]]),
    (leading, [FREE]),
    (leading, [LINE]),
    (leading, [LINE[:1]]),
    (leading, [FREE * 4]),
    (apart, [FREE, BOUND]),
    (apart, [FREE, FREE]),
    (apart, [LINE, LINE[:4]]),
    (map_to, [FREE, [FREE[1], FREE[0], FREE[2], FREE[3]]]),
    (map_to, [LINE, LINE]),
    (map_to, [FREE, BOUND]),
    (walked, [[("join", 0, 1), ("join", 2, 3), ("meet", 4, 5)]]),
    (walked, [[("join", 0, 1), ["join", 2, 3], None]]),
    (through, [FREE + [(2, 5, 1)]]),
    (through, [FREE + [FREE[0]]]),
    (through, [BOUND + [(5, 0, 1)]]),
    (crossings, [FREE + [(2, 5, 1), (7, 3, 1)]]),
    (crossings, [FREE + [(2, 5, 1), (2, 5, 1)]]),
    (is_closed, [FREE + [(2, 5, 1), (7, 3, 1)]]),
    (is_closed, [BOUND + [(2, 5, 1), (7, 3, 1)]]),
    (other_by_edge, [FREE + [(2, 5, 1)], (0, -1, 5)]),
    (other_by_edge, [FREE + [(2, 5, 1)], (0, -1, 4)]),
    (touching_by_edge, [FREE + [(2, 5, 1)]]),
    (touching_by_edge, [BOUND + [(2, 5, 1)]]),
    (is_sum, [[((0, 0), 1)], 2]),
    (is_sum, [([0, 0], [1, [2]]), 2]),
    (is_drawing, [ROWS]),
    (is_drawing, [[["free"], [None, [True]]]]),
    (free_rows, [ROWS]),
    (placed, [ROWS, FREE]),
    (placed, [ROWS, [FREE[0]] * 4]),
    (is_of_kind, [ROWS, BOUND]),
    (standing, [ROWS + [("free",)], [5, 6]]),
    (is_claim, [ROWS, ["on", 0, 4]]),
    (is_claim, [ROWS, ("on", 0, 4)]),
    (holds, [ROWS, placed(ROWS, FREE), ("on", 0, 4)]),
    (free_thing, [ROWS, 2]),
    (raw, [ROWS, [free_thing(ROWS, k) for k in range(4)], 4]),
    (claim_sums, [ROWS, [free_thing(ROWS, k) for k in range(4)], ("row", 0, 1, 2)]),
]


def answer(asked, given):
    try:
        return asked(*given)
    except EaselError as error:
        return error.__class__.__name__


class HandedIn(unittest.TestCase):
    def test_it_stays_as_it_was(self):
        for asked, given in CALLS:
            with self.subTest(asked=asked.__name__, given=given):
                own = copy.deepcopy(given)
                answer(asked, own)
                self.assertEqual(own, given)

    def test_asked_again_the_answer_is_the_same(self):
        for asked, given in CALLS:
            with self.subTest(asked=asked.__name__, given=given):
                own = copy.deepcopy(given)
                first = answer(asked, own)
                for part in own:
                    if isinstance(part, list):
                        part.append(part[0] if part else 5)
                        part.reverse()
                self.assertEqual(answer(asked, copy.deepcopy(given)), first)

    def test_what_was_told_does_not_hang_on_what_was_handed_in(self):
        numbers = [0, -4, 6, 0]
        row = plain(numbers)
        numbers[1] = 100
        self.assertEqual(row, (0, -2, 3, 0))
        nine = [1, 0, 0, 0, 1, 0, 0, 0, 1]
        made = map_of(nine)
        nine[0] = 7
        self.assertEqual(made, (1, 0, 0, 0, 1, 0, 0, 0, 1))

    def test_what_is_done_to_a_told_list_changes_nothing_told_later(self):
        before = map_between(FREE, tiles())
        told = tiles()
        kept = tiles()
        told.reverse()
        told.append((5, 5, 1))
        told[0] = None
        self.assertEqual(kept, [(1, 0, 0), (0, 1, 0), (0, 0, 1), (1, 1, 1)])
        self.assertEqual(tiles(), kept)
        self.assertEqual(map_between(FREE, tiles()), before)
        self.assertIs(are_free(tiles()), True)

    def test_a_told_form_is_the_asker_s_own(self):
        told = form(FREE)
        told[1].clear()
        self.assertEqual(form(FREE), ("four", tiles()))
        self.assertEqual(len(FREE), 4)

    def test_a_board_keeps_nothing_of_what_was_told(self):
        board = Board()
        board.take(("join", 0, 1))
        board.steps().clear()
        things = walked(board.steps())
        things.append(things[0])
        self.assertEqual(board.steps(), [("join", 0, 1)])
        self.assertEqual(board.many(), 5)

    def test_an_edge_keeps_nothing_of_what_was_told(self):
        board = Board()
        edge = Edge(board)
        edge.sum_of(1, 1)
        board.steps().clear()
        self.assertEqual(board.told(reach(edge, (3, -4, 7))), (3, -4, 7))
        steps = reached((3, -4, 7))
        steps.reverse()
        self.assertEqual(walked(reached((3, -4, 7)))[-1], ("spot", (3, -4, 7)))
        self.assertEqual(of_lines((1, 0, 0), (0, 1, 0)), (0, 1, 0, 0, 0, 0))


if __name__ == "__main__":
    unittest.main()
