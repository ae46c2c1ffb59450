import itertools
import unittest

from easelroom.errors import Alike, NotOnLine, NoThrow
from easelroom.throws import fourth, throw
from samples import (
    THREE_HUNDRED, determinant, is_plain_row, made_plain, mapped, small_rows, some_maps, spots_of_line,
)

LINES = [(0, 1, 0), (1, 0, 0), (0, 0, 1), (1, 1, 1), (1, -2, 3), (-1, 2, 0), (2, 0, -1), (0, -3, 2)]
OFF = [(1, 0, 0), (0, 1, 0), (0, 0, 1), (1, 1, 1), (2, -1, 3), (5, 4, -2)]
ROWS = [(0, 1), (1, 0), (1, 1), (-1, 1), (2, 1), (-3, 2), (1, 5), (7, 4), (-12, 35)]


def throw_by(one, other, third, last, off):
    """The throw by the words of point 11, with this spot off the line."""
    def turn(p, q):
        return determinant(p + q + off)
    return made_plain([turn(one, third) * turn(other, last), turn(one, last) * turn(other, third)])


def spots_off(line):
    return [spot for spot in OFF if sum(a * b for a, b in zip(spot, line)) != 0]


class Throws(unittest.TestCase):
    def test_told_ones(self):
        def on_edge(*numbers):
            return [(number, 0, 1) for number in numbers]
        self.assertEqual(throw(*on_edge(0, 1, 2, 3)), (4, 3))
        self.assertEqual(throw(*on_edge(0, 1, -1, 2)), (1, 4))
        self.assertEqual(throw((0, 0, 1), (1, 0, 1), (1, 0, 0), (1, 0, 2)), (-1, 1))
        self.assertEqual(throw((1, 0, 0), (0, 0, 1), (1, 0, 1), (5, 0, 1)), (5, 1))
        self.assertIsInstance(throw(*on_edge(0, 1, 2, 3)), tuple)

    def test_unlike_spots_of_many_lines_with_any_spot_off_the_line(self):
        for line in LINES:
            spots = spots_of_line(line)[:7]
            self.assertGreaterEqual(len(spots), 4)
            for four in itertools.permutations(spots[:6], 4):
                told = throw(*four)
                self.assertTrue(is_plain_row(told))
                for off in spots_off(line):
                    self.assertEqual(told, throw_by(*four, off), (four, off))

    def test_far_spots_among_them(self):
        for spots in [[(1, 0, 0), (0, 1, 0), (1, 1, 0), (-2, 3, 0)], [(1, 2, 0), (0, 0, 1), (1, 2, 1), (-3, -6, 2)]]:
            for four in itertools.permutations(spots):
                told = throw(*four)
                off = (0, 0, 1) if spots[1][2] == 0 else (1, 0, 0)
                self.assertEqual(told, throw_by(*four, off))

    def test_two_alike_at_every_pair_of_places(self):
        awaited = {(0, 1): (1, 1), (2, 3): (1, 1), (0, 2): (0, 1), (1, 3): (0, 1), (0, 3): (1, 0), (1, 2): (1, 0)}
        for line in LINES:
            for three in itertools.permutations(spots_of_line(line)[:5], 3):
                for (i, j), row in awaited.items():
                    four = [None] * 4
                    four[i] = four[j] = three[0]
                    rest = [k for k in range(4) if k not in (i, j)]
                    four[rest[0]], four[rest[1]] = three[1], three[2]
                    self.assertEqual(throw(*four), row, four)

    def test_two_and_two_alike(self):
        for one, other in itertools.permutations(spots_of_line((1, -2, 3))[:5], 2):
            self.assertEqual(throw(one, one, other, other), (1, 1))
            self.assertEqual(throw(one, other, one, other), (0, 1))
            self.assertEqual(throw(one, other, other, one), (1, 0))

    def test_not_on_one_line(self):
        spots = small_rows(1)
        for four in itertools.product(spots[:7], repeat=4):
            flat = all(determinant(a + b + c) == 0 for a, b, c in itertools.combinations(four, 3))
            if not flat:
                with self.assertRaises(NotOnLine):
                    throw(*four)
            elif max(four.count(spot) for spot in four) < 3:
                self.assertIsInstance(throw(*four), tuple)

    def test_three_alike_are_always_on_a_line_and_have_no_throw(self):
        for one, other in itertools.permutations(small_rows(1), 2):
            for place in range(4):
                four = [one] * 4
                four[place] = other
                with self.assertRaises(NoThrow):
                    throw(*four)
            with self.assertRaises(NoThrow):
                throw(one, one, one, one)

    def test_two_alike_and_not_on_one_line(self):
        for four in itertools.permutations([(0, 0, 1), (0, 0, 1), (1, 0, 1), (0, 1, 1)]):
            with self.assertRaises(NotOnLine):
                throw(*four)

    def test_maps_keep_throws(self):
        for by in some_maps(12):
            for line in LINES:
                spots = spots_of_line(line)[:5]
                for four in itertools.permutations(spots, 4):
                    self.assertEqual(throw(*[mapped(by, spot) for spot in four]), throw(*four))
                self.assertEqual(throw(*[mapped(by, spots[k]) for k in (0, 1, 2, 0)]), (1, 0))

    def test_great_numbers(self):
        n = THREE_HUNDRED
        self.assertEqual(throw((0, 0, 1), (1, 0, 0), (1, 0, 1), (n, 0, 1)), (1, n))
        self.assertEqual(throw((n, 1, 1), (n, 2, 1), (n, 3, 1), (n, 4, 1)), (4, 3))


class Fourths(unittest.TestCase):
    def test_the_throw_is_the_row(self):
        for line in LINES:
            for three in itertools.permutations(spots_of_line(line)[:5], 3):
                for row in ROWS:
                    last = fourth(*three, row)
                    self.assertTrue(is_plain_row(last))
                    self.assertEqual(sum(a * b for a, b in zip(last, line)), 0)
                    self.assertEqual(throw_by(*three, last, spots_off(line)[0]), row)
                    self.assertEqual(throw(*three, last), row)

    def test_the_rows_of_alike_ones(self):
        for three in itertools.permutations(spots_of_line((1, 1, 1))[:5], 3):
            self.assertEqual(fourth(*three, (0, 1)), three[1])
            self.assertEqual(fourth(*three, (1, 0)), three[0])
            self.assertEqual(fourth(*three, (1, 1)), three[2])

    def test_of_the_throw_the_fourth_is_the_fourth(self):
        for four in itertools.permutations(spots_of_line((0, 0, 1))[:5], 4):
            self.assertEqual(fourth(*four[:3], throw(*four)), four[3])

    def test_not_on_one_line_is_refused_ahead_of_alike(self):
        for three in itertools.product(small_rows(1), repeat=3):
            if determinant(three[0] + three[1] + three[2]) != 0:
                with self.assertRaises(NotOnLine):
                    fourth(*three, (2, 1))
            elif len(set(three)) < 3:
                with self.assertRaises(Alike):
                    fourth(*three, (2, 1))
            else:
                self.assertEqual(throw(*three, fourth(*three, (2, 1))), (2, 1))

    def test_great_numbers(self):
        n = THREE_HUNDRED
        last = fourth((0, 0, 1), (1, 0, 0), (1, 0, 1), (1, n))
        self.assertEqual(last, (n, 0, 1))


if __name__ == "__main__":
    unittest.main()
