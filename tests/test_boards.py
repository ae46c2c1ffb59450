import unittest

from easelroom.boards import Board, walked
from easelroom.errors import Stuck
from easelroom.spots import join, meet
from samples import any_things

CORNERS = [(0, 0, 1), (1, 0, 1), (0, 1, 1), (1, 1, 1)]
STEPS = [
    ("join", 0, 1), ("join", 2, 3), ("meet", 4, 5), ("join", 0, 3), ("join", 2, 1), ("meet", 7, 8), ("join", 6, 9),
]


class Boards(unittest.TestCase):
    def stuck(self, board, step):
        with self.subTest(step=step):
            before = ([board.told(i) for i in range(board.many())], board.steps())
            with self.assertRaises(Stuck) as taken:
                board.take(step)
            self.assertEqual(taken.exception.at, len(before[1]))
            self.assertEqual(([board.told(i) for i in range(board.many())], board.steps()), before)

    def worked(self):
        board = Board()
        for step in STEPS:
            board.take(step)
        return board

    def test_the_corners_first(self):
        board = Board()
        self.assertEqual(board.many(), 4)
        self.assertEqual([board.told(i) for i in range(4)], CORNERS)
        self.assertEqual([board.kind(i) for i in range(4)], ["spot"] * 4)
        self.assertEqual(board.steps(), [])

    def test_steps_of_each_word(self):
        board = Board()
        self.assertEqual([board.take(step) for step in STEPS], [4, 5, 6, 7, 8, 9, 10])
        self.assertEqual(board.many(), 11)
        awaited = [
            ("line", (0, 1, 0)), ("line", (0, -1, 1)), ("spot", (1, 0, 0)), ("line", (-1, 1, 0)),
            ("line", (-1, -1, 1)), ("spot", (1, 1, 2)), ("line", (0, -2, 1)),
        ]
        self.assertEqual([(board.kind(i), board.told(i)) for i in range(4, 11)], awaited)
        self.assertEqual(board.steps(), STEPS)

    def test_the_thing_is_the_join_or_the_meet(self):
        board = self.worked()
        for k, (word, i, j) in enumerate(STEPS):
            asked = {"join": join, "meet": meet}[word]
            self.assertEqual(board.told(4 + k), asked(board.told(i), board.told(j)))

    def test_a_thing_that_stands_there_already_is_added_again(self):
        board = Board()
        self.assertEqual([board.take(("join", 0, 1)) for again in range(3)], [4, 5, 6])
        self.assertEqual(board.told(4), board.told(6))
        board.take(("join", 0, 2))
        self.assertEqual(board.take(("meet", 4, 7)), 8)
        self.assertEqual((board.kind(8), board.told(8)), ("spot", (0, 0, 1)))
        self.assertEqual(board.many(), 9)

    def test_words_that_are_none(self):
        board = self.worked()
        for word in ["", "Join", "join ", "joins", "spot", None, 0, True, ("join",), ["join"], [], ()]:
            self.stuck(board, (word, 0, 1))
            self.stuck(board, (word, 4, 5))

    def test_numbers_that_are_none(self):
        board = self.worked()
        for wrong in [-1, -11, 11, 12, 10 ** 30, True, False, None, "0", (0,), [0], (), []]:
            self.stuck(board, ("join", wrong, 2))
            self.stuck(board, ("join", 2, wrong))
            self.stuck(board, ("meet", wrong, 5))
            self.stuck(board, ("meet", 5, wrong))
        self.stuck(Board(), ("join", 0, 4))

    def test_things_of_the_wrong_kind(self):
        board = self.worked()
        self.stuck(board, ("join", 0, 4))
        self.stuck(board, ("join", 4, 0))
        self.stuck(board, ("join", 4, 5))
        self.stuck(board, ("meet", 0, 1))
        self.stuck(board, ("meet", 4, 1))
        self.stuck(board, ("meet", 6, 4))
        self.stuck(Board(), ("meet", 0, 1))

    def test_things_that_are_the_same(self):
        board = self.worked()
        for number in (0, 3, 6, 9):
            self.stuck(board, ("join", number, number))
        for number in (4, 10):
            self.stuck(board, ("meet", number, number))
        board.take(("join", 1, 0))
        self.stuck(board, ("meet", 4, 11))
        board.take(("meet", 4, 7))
        self.stuck(board, ("join", 0, 12))
        self.stuck(board, ("join", 12, 0))

    def test_a_spot_and_a_line_of_the_same_numbers_are_no_pair(self):
        board = Board()
        board.take(("join", 0, 1))
        board.take(("join", 2, 3))
        board.take(("join", 0, 2))
        board.take(("join", 1, 3))
        board.take(("meet", 4, 5))
        board.take(("meet", 6, 7))
        far = board.take(("join", 8, 9))
        self.assertEqual(board.told(far), (0, 0, 1))
        self.stuck(board, ("join", 0, far))
        self.stuck(board, ("meet", far, 0))

    def test_steps_that_are_any_thing(self):
        board = Board()
        for thing in any_things():
            if thing != ("join", 0, 1):
                self.stuck(board, thing)
        for thing in [("join", 0), ("join",), ("join", 0, 1, 2), ("join", 0, 1, None), ["join", 0, 1], "join 0 1"]:
            self.stuck(board, thing)

    def test_stuck_and_on(self):
        board = Board()
        board.take(("join", 0, 1))
        self.stuck(board, ("join", 0, 0))
        self.assertEqual(board.take(("join", 2, 3)), 5)
        self.stuck(board, ("meet", 4, 4))
        self.assertEqual(board.take(("meet", 4, 5)), 6)
        self.assertEqual(board.steps(), STEPS[:3])

    def test_steps_is_a_new_list_each_time(self):
        board = self.worked()
        told = board.steps()
        told.append(("join", 0, 1))
        told[0] = None
        self.assertEqual(board.steps(), STEPS)
        kept = board.steps()
        board.take(("join", 0, 1))
        self.assertEqual(kept, STEPS)
        self.assertIsNot(board.steps(), board.steps())

    def test_two_boards(self):
        one, other = Board(), Board()
        one.take(("join", 0, 1))
        self.assertEqual(other.many(), 4)
        self.assertEqual(other.steps(), [])


class Walks(unittest.TestCase):
    def test_of_no_steps(self):
        self.assertEqual(walked([]), [("spot", corner) for corner in CORNERS])

    def test_of_many_steps(self):
        board = Board()
        for step in STEPS:
            board.take(step)
        self.assertEqual(walked(STEPS), [(board.kind(i), board.told(i)) for i in range(board.many())])
        self.assertEqual(walked(board.steps())[-1], ("line", (0, -2, 1)))

    def test_long_walks(self):
        steps = [("join", 0, 1), ("join", 0, 2)] * 100
        self.assertEqual(len(walked(steps)), 204)

    def test_stuck_with_the_number_of_steps_done(self):
        for many in range(len(STEPS) + 1):
            for wrong in [("join", 0, 0), ("meet", 0, 1), None, ["join", 0, 1], ("join", True, 2), "join"]:
                with self.assertRaises(Stuck) as taken:
                    walked(STEPS[:many] + [wrong] + STEPS)
                self.assertEqual(taken.exception.at, many)

    def test_what_is_told_is_the_asker_s_own(self):
        steps = list(STEPS)
        told = walked(steps)
        told.clear()
        self.assertEqual(steps, STEPS)
        self.assertEqual(len(walked(steps)), 11)


if __name__ == "__main__":
    unittest.main()
