import itertools
import random
import unittest
from fractions import Fraction

from easelroom.boards import Board, walked
from easelroom.edges import Edge
from easelroom.errors import NoPart, NotOnEdge
from easelroom.reaching import reach, reached
from samples import made_plain, small_rows

WORDS = ("sum_of", "less_of", "times_of", "over_of")


def reckoned(word, one, other):
    if word == "sum_of":
        return one + other
    if word == "less_of":
        return one - other
    return one * other if word == "times_of" else one / other


def number_of(board, i):
    """The number for which a thing of the board stands."""
    a, b, c = board.told(i)
    assert board.kind(i) == "spot" and b == 0 and c != 0
    return Fraction(a, c)


def figures(number):
    return len(bin(abs(number))) - 2


def laid():
    """A board with an edge, and the things of some numbers by the number."""
    board = Board()
    edge = Edge(board)
    found = {Fraction(0): 0, Fraction(1): 1}
    for number in (2, 3, 5, -1, -4, 12):
        found[Fraction(number)] = edge.whole(number)
    for above, below in ((1, 2), (-1, 3), (5, 2), (7, -12)):
        found[Fraction(above, below)] = edge.over_of(edge.whole(above), edge.whole(below))
    return board, edge, found


class Laying(unittest.TestCase):
    def test_by_at_most_ten_steps(self):
        board = Board()
        Edge(board)
        self.assertLessEqual(len(board.steps()), 10)
        self.assertEqual([board.told(i) for i in range(4)], [(0, 0, 1), (1, 0, 1), (0, 1, 1), (1, 1, 1)])
        before = len(board.steps())
        Edge(board)
        self.assertLessEqual(len(board.steps()), before + 10)

    def test_all_that_is_done_can_be_walked_again(self):
        board, edge, found = laid()
        things = walked(board.steps())
        self.assertEqual(things, [(board.kind(i), board.told(i)) for i in range(board.many())])


class Reckoning(unittest.TestCase):
    def check(self, board, edge, word, i, j):
        awaited = reckoned(word, number_of(board, i), number_of(board, j))
        before = board.many()
        found = getattr(edge, word)(i, j)
        self.assertEqual(number_of(board, found), awaited)
        self.assertLessEqual(board.many() - before, 8)
        return found

    def test_each_pair_of_numbers(self):
        board, edge, found = laid()
        for word in WORDS:
            for one, other in itertools.product(found, repeat=2):
                if word != "over_of" or other != 0:
                    with self.subTest(word=word, one=one, other=other):
                        self.check(board, edge, word, found[one], found[other])

    def test_the_same_thing_twice(self):
        board, edge, found = laid()
        for one in found:
            for word in WORDS:
                if word != "over_of" or one != 0:
                    self.check(board, edge, word, found[one], found[one])

    def test_two_things_of_one_number(self):
        board, edge, found = laid()
        again = edge.less_of(edge.whole(7), edge.whole(5))
        self.assertNotEqual(again, found[Fraction(2)])
        for word in WORDS:
            self.check(board, edge, word, again, found[Fraction(2)])
            self.check(board, edge, word, found[Fraction(2)], again)

    def test_on_a_board_with_other_steps_ahead(self):
        board = Board()
        for step in [("join", 0, 3), ("join", 1, 2), ("meet", 4, 5), ("join", 0, 1), ("join", 6, 2), ("meet", 7, 8)]:
            board.take(step)
        self.assertEqual(board.told(9), (1, 0, 1))
        edge = Edge(board)
        third = self.check(board, edge, "over_of", 1, edge.whole(3))
        self.check(board, edge, "times_of", 9, third)
        half = board.take(("meet", board.take(("join", 6, edge.far_up)), 7))
        self.assertEqual(board.told(half), (1, 0, 2))
        for word in WORDS:
            self.check(board, edge, word, half, third)
            self.check(board, edge, word, third, half)

    def test_two_edges_on_one_board(self):
        board = Board()
        one, other = Edge(board), Edge(board)
        two = one.whole(2)
        three = other.whole(3)
        self.check(board, one, "over_of", three, two)
        self.check(board, other, "over_of", two, three)
        self.check(board, other, "less_of", self.check(board, one, "times_of", two, three), two)

    def test_two_boards(self):
        one, other = Board(), Board()
        Edge(one).whole(6)
        self.assertEqual(other.many(), 4)

    def test_numbers_by_chance(self):
        chance = random.Random(19)
        board, edge, found = laid()
        things = list(found.values())
        for again in range(120):
            word = chance.choice(WORDS)
            i, j = chance.choice(things), chance.choice(things)
            if word != "over_of" or number_of(board, j) != 0:
                things.append(self.check(board, edge, word, i, j))
                things = things[-12:]


class Refused(unittest.TestCase):
    def refused(self, error, board, edge, word, i, j):
        with self.subTest(word=word, i=i, j=j):
            before = (board.many(), board.steps())
            with self.assertRaises(error):
                getattr(edge, word)(i, j)
            self.assertEqual((board.many(), board.steps()), before)

    def test_what_is_no_near_spot_on_the_edge(self):
        board, edge, found = laid()
        line = board.take(("join", 0, 1))
        far = board.take(("meet", line, board.take(("join", 2, 3))))
        upright = board.take(("meet", board.take(("join", 0, 2)), board.take(("join", 1, 3))))
        self.assertEqual(board.told(far), (1, 0, 0))
        self.assertEqual(board.told(upright), (0, 1, 0))
        side = board.take(("join", 1, 3))
        self.assertEqual(board.told(side), (-1, 0, 1))
        board.take(("meet", line, side))
        for word in WORDS:
            many = board.many()
            for wrong in [-1, -many, 1 - many, many, many + 7, 10 ** 30, line, side, 2, 3, far, upright]:
                self.refused(NotOnEdge, board, edge, word, wrong, 1)
                self.refused(NotOnEdge, board, edge, word, 1, wrong)
                self.refused(NotOnEdge, board, edge, word, wrong, wrong)
                self.refused(NotOnEdge, board, edge, word, wrong, 0)

    def test_over_nought(self):
        board, edge, found = laid()
        nought = edge.less_of(1, 1)
        for i in found.values():
            self.refused(NoPart, board, edge, "over_of", i, 0)
            self.refused(NoPart, board, edge, "over_of", i, nought)


class Wholes(unittest.TestCase):
    def check(self, number):
        board = Board()
        edge = Edge(board)
        before = board.many()
        found = edge.whole(number)
        self.assertEqual((board.kind(found), board.told(found)), ("spot", (number, 0, 1)))
        self.assertLessEqual(board.many() - before, 12 * figures(number))
        return found, board.many() - before

    def test_nought_and_one_by_no_step(self):
        self.assertEqual(self.check(0), (0, 0))
        self.assertEqual(self.check(1), (1, 0))

    def test_small_ones_of_either_sign(self):
        for number in range(-130, 131):
            self.check(number)

    def test_great_ones(self):
        chance = random.Random(20)
        for number in [10 ** 30 - 1, 2 ** 99 - 1, 2 ** 99, 10 ** 29] + [chance.randrange(10 ** 30) for k in range(10)]:
            self.check(number)
            self.check(-number)

    def test_somewhat_beyond(self):
        self.check(10 ** 33 + 7)


class Reaching(unittest.TestCase):
    def check(self, spot):
        bound = 12 * sum(figures(number) for number in spot if number != 0) + 60
        board = Board()
        edge = Edge(board)
        before = board.many()
        found = reach(edge, spot)
        self.assertEqual((board.kind(found), board.told(found)), ("spot", spot))
        self.assertLessEqual(board.many() - before, bound)
        steps = reached(spot)
        self.assertIsInstance(steps, list)
        self.assertGreaterEqual(len(steps), 1)
        self.assertLessEqual(len(steps), bound + 10)
        things = walked(steps)
        self.assertEqual(things[-1], ("spot", spot))

    def test_the_corners(self):
        for spot in [(0, 0, 1), (1, 0, 1), (0, 1, 1), (1, 1, 1)]:
            self.check(spot)

    def test_all_small_spots_near_and_far(self):
        for spot in small_rows(3):
            self.check(spot)

    def test_great_numbers(self):
        chance = random.Random(21)
        for again in range(8):
            three = [chance.randrange(-10 ** 30 + 1, 10 ** 30) for place in range(3)]
            self.check(made_plain(three))
            self.check(made_plain(three[:2] + [0]))
            self.check(made_plain([0] + three[1:]))
            self.check(made_plain([three[0], 0, three[2]]))
        self.check((10 ** 30 - 1, -10 ** 30 + 1, 1))
        self.check((1, 1, 10 ** 30 - 1))

    def test_several_on_one_edge_of_a_board_in_use(self):
        board = Board()
        board.take(("join", 0, 3))
        edge = Edge(board)
        for spot in [(3, -4, 7), (-3, 4, 0), (0, 0, 1), (3, -4, 7), (1, 0, 0)]:
            found = reach(edge, spot)
            self.assertEqual(board.told(found), spot)
            self.assertEqual(walked(board.steps())[found], ("spot", spot))

    def test_a_told_list_is_the_asker_s_own(self):
        told = reached((2, 3, 5))
        kept = list(told)
        told.clear()
        self.assertEqual(reached((2, 3, 5)), kept)


if __name__ == "__main__":
    unittest.main()
