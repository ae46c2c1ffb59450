import itertools
import unittest

from easelroom.errors import Alike
from easelroom.spots import (
    FAR_LINE, cross, dot, is_far, join, lies_on, meet, on_line, spot_at, through_spot, turn,
)
from samples import THREE_HUNDRED, determinant, is_plain_row, small_rows

ROWS = [(0, 0, 0), (1, 0, 0), (0, -1, 0), (2, 4, -6), (-1, 5, 3), (7, -2, 0), (3, 3, 3)]


def share_by_trial(rows, candidates):
    return any(all(sum(a * b for a, b in zip(row, one)) == 0 for row in rows) for one in candidates)


class NearAndFar(unittest.TestCase):
    def test_the_far_line(self):
        self.assertEqual(FAR_LINE, (0, 0, 1))

    def test_spot_at(self):
        self.assertEqual(spot_at(3, -4), (3, -4, 1))
        self.assertEqual(spot_at(0, 0), (0, 0, 1))
        self.assertEqual(spot_at(-6, 10), (-6, 10, 1))
        self.assertEqual(spot_at(THREE_HUNDRED, -THREE_HUNDRED), (THREE_HUNDRED, -THREE_HUNDRED, 1))

    def test_is_far(self):
        for spot in [(0, 0, 1), (1, 2, 3), (-5, 0, 1)]:
            self.assertIs(is_far(spot), False)
        for spot in [(1, 0, 0), (0, 1, 0), (-2, 3, 0)]:
            self.assertIs(is_far(spot), True)

    def test_lies_on(self):
        self.assertIs(lies_on((1, 2, 1), (1, 1, -3)), True)
        self.assertIs(lies_on((1, 2, 1), (-1, -1, 3)), True)
        self.assertIs(lies_on((1, 3, 1), (-1, -1, 3)), False)
        self.assertIs(lies_on((1, 3, 2), (0, 2, -3)), True)
        self.assertIs(lies_on((0, 0, 1), (1, 1, 0)), True)
        self.assertIs(lies_on((1, 0, 0), (1, 0, 0)), False)
        self.assertIs(lies_on((0, 1, 0), (1, 0, 0)), True)

    def test_each_part_counts(self):
        for place in range(3):
            spot = tuple(int(k == place) for k in range(3))
            for line in small_rows(1):
                self.assertIs(lies_on(spot, line), line[place] == 0)

    def test_just_the_far_spots_lie_on_the_far_line(self):
        for spot in small_rows(2):
            self.assertIs(lies_on(spot, FAR_LINE), spot[2] == 0)
            self.assertIs(is_far(spot), spot[2] == 0)


class CrossDotTurn(unittest.TestCase):
    def test_cross_as_it_comes(self):
        self.assertEqual(cross((1, 2, 3), (4, 5, 6)), (-3, 6, -3))
        self.assertEqual(cross((2, 0, 0), (0, 2, 0)), (0, 0, 4))
        self.assertEqual(cross((0, 2, 0), (2, 0, 0)), (0, 0, -4))
        self.assertIsInstance(cross((1, 2, 3), (4, 5, 6)), tuple)

    def test_cross_of_noughts_and_of_alike_ones(self):
        self.assertEqual(cross((0, 0, 0), (4, 5, 6)), (0, 0, 0))
        self.assertEqual(cross((4, 5, 6), (0, 0, 0)), (0, 0, 0))
        self.assertEqual(cross((4, 5, 6), (-8, -10, -12)), (0, 0, 0))

    def test_dot(self):
        self.assertEqual(dot((1, 2, 3), (4, -5, 6)), 12)
        self.assertEqual(dot((0, 0, 0), (4, -5, 6)), 0)
        self.assertEqual(dot((2, 0, 0), (3, 7, 9)), 6)
        self.assertEqual(dot((0, 2, 0), (3, 7, 9)), 14)
        self.assertEqual(dot((0, 0, 2), (3, 7, 9)), 18)

    def test_turn(self):
        self.assertEqual(turn((1, 0, 0), (0, 1, 0), (0, 0, 1)), 1)
        self.assertEqual(turn((0, 1, 0), (1, 0, 0), (0, 0, 1)), -1)
        self.assertEqual(turn((1, 2, 3), (4, 5, 6), (7, 8, 10)), -3)
        self.assertEqual(turn((1, 2, 3), (4, 5, 6), (7, 8, 9)), 0)
        self.assertEqual(turn((0, 0, 0), (4, 5, 6), (7, 8, 9)), 0)

    def test_any_rows(self):
        for one, other in itertools.product(ROWS, repeat=2):
            (a, b, c), (d, e, f) = one, other
            self.assertEqual(cross(one, other), (b * f - c * e, c * d - a * f, a * e - b * d))
            self.assertEqual(dot(one, other), a * d + b * e + c * f)
            for third in ROWS:
                self.assertEqual(turn(one, other, third), determinant(one + other + third))

    def test_great_numbers(self):
        n = THREE_HUNDRED
        self.assertEqual(cross((n, 0, 1), (0, n, 1)), (-n, -n, n * n))
        self.assertEqual(dot((n, n, n), (n, -n, n)), n * n)
        self.assertEqual(turn((n, 0, 0), (0, n, 0), (0, 0, n)), n * n * n)


class OnOneLine(unittest.TestCase):
    """on_line and through_spot ask the same of plain rows, so both are held to each case."""

    def tells(self, truth, rows):
        for asked in (on_line, through_spot):
            with self.subTest(asked=asked.__name__, rows=rows):
                self.assertIs(asked(list(rows)), truth)

    def test_none_one_two(self):
        self.tells(True, [])
        for one, other in itertools.product(small_rows(1), repeat=2):
            self.tells(True, [one])
            self.tells(True, [one, other])

    def test_three_in_any_order(self):
        for three in itertools.permutations([(0, 0, 1), (1, 1, 1), (5, 5, 1)]):
            self.tells(True, three)
        for three in itertools.permutations([(0, 0, 1), (1, 1, 1), (5, 6, 1)]):
            self.tells(False, three)
        for three in itertools.permutations([(1, 0, 0), (0, 1, 0), (-2, 3, 0)]):
            self.tells(True, three)

    def test_all_small_threes(self):
        for three in itertools.product(small_rows(1), repeat=3):
            self.tells(determinant(three[0] + three[1] + three[2]) == 0, three)

    def test_alike_ones_at_any_place(self):
        line = [(0, 0, 1), (1, 2, 1), (2, 4, 1), (1, 2, 0)]
        for five in itertools.product(line, repeat=5):
            self.tells(True, five)

    def test_one_off_the_line_at_any_place(self):
        spots = [(0, 0, 1), (0, 0, 1), (1, 2, 1), (1, 2, 1)]
        for place in range(5):
            self.tells(False, spots[:place] + [(3, 7, 1)] + spots[place:])

    def test_the_first_ones_alike_and_one_behind_off_the_line(self):
        first = (2, -1, 3)
        for many in range(1, 6):
            alike = [first] * many
            self.tells(True, alike)
            self.tells(True, alike + [(1, 1, 1)])
            self.tells(True, alike + [(1, 1, 1)] * many)
            self.tells(False, alike + [(1, 1, 1), (0, 0, 1)])
            self.tells(False, alike + [(1, 1, 1), first, (1, 1, 1), (0, 0, 1), first])
            self.tells(True, alike + [(1, 1, 1), (3, 0, 4), first, (1, -2, 2)])
            self.tells(False, alike + [(1, 1, 1), (3, 0, 4), first, (1, -2, 2), (1, -2, 3)])

    def test_three_by_three_is_not_enough(self):
        self.tells(False, [(0, 0, 1), (1, 0, 1), (2, 0, 1), (0, 1, 1)])
        self.tells(False, [(0, 0, 1), (1, 0, 1), (0, 1, 1), (2, 0, 1)])
        self.tells(False, [(1, 0, 0), (0, 1, 0), (0, 0, 1), (1, 1, 1)])

    def test_many(self):
        row = [(k, 3 * k - 2, 1) for k in range(-20, 21)]
        self.tells(True, row + [(1, 3, 0)])
        self.tells(False, row + [(1, 2, 0)])
        self.tells(False, row + [(0, 0, 1)])

    def test_some_line_has_all_just_where_it_is_told(self):
        candidates = small_rows(2)
        for four in itertools.combinations(small_rows(1), 4):
            self.tells(share_by_trial(four, candidates), four)

    def test_great_numbers(self):
        n = THREE_HUNDRED
        self.tells(True, [(n, 0, 1), (0, n, 1), (-1, 1, 0), (1, n - 1, 1)])
        self.tells(False, [(n, 0, 1), (0, n, 1), (-1, 1, 0), (1, n, 1)])


class JoinsAndMeets(unittest.TestCase):
    def test_told_ones(self):
        self.assertEqual(join((0, 0, 1), (1, 0, 1)), (0, 1, 0))
        self.assertEqual(join((0, 0, 1), (2, 2, 1)), (-1, 1, 0))
        self.assertEqual(join((1, 0, 0), (0, 1, 0)), FAR_LINE)
        self.assertEqual(join((3, 0, 1), (0, 3, 1)), (-1, -1, 3))
        self.assertEqual(meet((0, 1, 0), (1, 0, 0)), (0, 0, 1))
        self.assertEqual(meet((0, 1, 0), (0, -1, 1)), (1, 0, 0))
        self.assertEqual(meet((-1, 1, 0), (-1, -1, 3)), (3, 3, 2))

    def test_each_small_pair(self):
        for one, other in itertools.permutations(small_rows(1), 2):
            for asked in (join, meet):
                found = asked(one, other)
                self.assertIsInstance(found, tuple)
                self.assertTrue(is_plain_row(found))
                self.assertEqual(asked(other, one), found)
            self.assertTrue(lies_on(one, join(one, other)))
            self.assertTrue(lies_on(other, join(one, other)))
            self.assertTrue(lies_on(meet(one, other), one))
            self.assertTrue(lies_on(meet(one, other), other))

    def test_two_that_are_the_same(self):
        for row in small_rows(1) + [(THREE_HUNDRED, 0, 1)]:
            with self.assertRaises(Alike):
                join(row, row)
            with self.assertRaises(Alike):
                meet(row, tuple(list(row)))

    def test_great_numbers(self):
        n = THREE_HUNDRED
        self.assertEqual(join((n, 0, 1), (0, n, 1)), (-1, -1, n))
        self.assertEqual(meet((1, 0, n), (0, 1, n)), (-n, -n, 1))


if __name__ == "__main__":
    unittest.main()
