import itertools
import random
import unittest

from easelroom.curves import carried, is_on_curve, is_round, of_lines, table_of, through, worth
from easelroom.errors import Alike, FourOnLine
from easelroom.maps import back
from easelroom.poles import line_about, other_end, touching
from samples import (
    THREE_HUNDRED, determinant, is_plain_row, lie_on_line, line_of, made_plain, mapped, small_rows, some_maps,
)

CIRCLE = (-1, 0, -1, 0, 0, 1)
PARABOLA = (-1, 0, 0, 0, 1, 0)
HYPERBOLA = (0, -1, 0, 0, 0, 1)
EMPTY = (1, 0, 1, 0, 0, 1)
CROSSED = (0, 1, 0, 0, 0, 0)
DOUBLE = (1, 2, 1, 0, 0, 0)
ONE_SPOT = (1, 0, 1, 0, 0, 0)
CURVES = [CIRCLE, PARABOLA, HYPERBOLA, EMPTY, CROSSED, DOUBLE, ONE_SPOT, (2, -3, 5, 7, -11, 13), (0, 0, 0, 1, 0, 0),
          (0, 0, 0, 0, 0, 1), (1, 1, 1, 1, 1, 1), (3, 0, -2, 0, 5, 0)]
SPOTS = small_rows(3)


def worth_by_words(curve, spot):
    a, b, c, d, e, f = curve
    x, y, z = spot
    return a * x * x + b * x * y + c * y * y + d * x * z + e * y * z + f * z * z


def led_line_by(by, line):
    """The line to which a map leads a line, by two of its spots."""
    on = sorted({line_of(line, unit) for unit in [(1, 0, 0), (0, 1, 0), (0, 0, 1)] if unit != line})
    return line_of(mapped(by, on[0]), mapped(by, on[1]))


def may_be_five(five):
    if len(set(five)) < 5:
        return False
    return not any(
        all(lie_on_line(*three) for three in itertools.combinations(four, 3))
        for four in itertools.combinations(five, 4)
    )


class Curves(unittest.TestCase):
    def test_worths(self):
        self.assertEqual(worth((2, -3, 5, 7, -11, 13), (1, 10, 100)), 2 - 30 + 500 + 700 - 11000 + 130000)
        for curve in CURVES:
            for spot in SPOTS:
                self.assertEqual(worth(curve, spot), worth_by_words(curve, spot))
                self.assertIs(is_on_curve(curve, spot), worth_by_words(curve, spot) == 0)

    def test_each_number_of_the_curve_counts(self):
        for place in range(6):
            curve = tuple(int(k == place) for k in range(6))
            self.assertEqual(worth(curve, (2, 3, 5)), (4, 6, 9, 10, 15, 25)[place])

    def test_spots_on_and_off(self):
        self.assertIs(is_on_curve(CIRCLE, (3, 4, 5)), True)
        self.assertIs(is_on_curve(CIRCLE, (3, 4, 6)), False)
        self.assertIs(is_on_curve(PARABOLA, (3, 9, 1)), True)
        self.assertIs(is_on_curve(PARABOLA, (0, 1, 0)), True)
        self.assertIs(is_on_curve(PARABOLA, (1, 0, 0)), False)
        self.assertIs(is_on_curve(HYPERBOLA, (1, 0, 0)), True)
        self.assertEqual([spot for spot in SPOTS if is_on_curve(EMPTY, spot)], [])

    def test_tables(self):
        self.assertEqual(table_of((2, -3, 5, 7, -11, 13)), (4, -3, 7, -3, 10, -11, 7, -11, 26))
        for curve in CURVES:
            table = table_of(curve)
            self.assertIsInstance(table, tuple)
            for spot in SPOTS[:40]:
                sides = sum(table[3 * i + j] * spot[i] * spot[j] for i in range(3) for j in range(3))
                self.assertEqual(sides, 2 * worth_by_words(curve, spot))

    def test_round_and_not(self):
        for curve in [CIRCLE, PARABOLA, HYPERBOLA, EMPTY]:
            self.assertIs(is_round(curve), True)
        for curve in [CROSSED, DOUBLE, ONE_SPOT, (0, 0, 0, 1, 0, 0), (0, 0, 0, 0, 0, 1)]:
            self.assertIs(is_round(curve), False)
        for curve in small_rows(1, 6):
            a, b, c, d, e, f = curve
            self.assertIs(is_round(curve), determinant((2 * a, b, d, b, 2 * c, e, d, e, 2 * f)) != 0)

    def test_two_lines_together(self):
        self.assertEqual(of_lines((1, 0, 0), (0, 1, 0)), CROSSED)
        self.assertEqual(of_lines((1, 2, 3), (1, 2, 3)), (1, 4, 4, 6, 12, 9))
        self.assertEqual(of_lines((1, 0, 0), (1, 0, 0)), (1, 0, 0, 0, 0, 0))
        self.assertEqual(of_lines((-1, 0, 1), (-1, 2, 0)), made_plain((1, -2, 0, -1, 2, 0)))
        for line, other in itertools.product(small_rows(1), repeat=2):
            curve = of_lines(line, other)
            self.assertTrue(is_plain_row(curve))
            self.assertEqual(curve, of_lines(other, line))
            self.assertIs(is_round(curve), False)
            for spot in small_rows(2):
                on = [sum(a * b for a, b in zip(spot, one)) == 0 for one in (line, other)]
                self.assertIs(is_on_curve(curve, spot), any(on))

    def test_great_numbers(self):
        n = THREE_HUNDRED
        self.assertEqual(worth((0, 0, 0, 0, 0, 1), (0, 0, n)), n * n)
        self.assertEqual(of_lines((n, 0, 1), (-n, 0, 1)), (-n * n, 0, 0, 0, 0, 1))


class Through(unittest.TestCase):
    def check(self, five):
        curve = through(list(five))
        self.assertTrue(is_plain_row(curve))
        self.assertEqual(len(curve), 6)
        for spot in five:
            self.assertEqual(worth_by_words(curve, spot), 0)
        flat = any(lie_on_line(*three) for three in itertools.combinations(five, 3))
        self.assertIs(is_round(curve), not flat)
        return curve

    def test_five_of_a_known_curve_in_any_order(self):
        for five in itertools.permutations([(1, 0, 1), (0, 1, 1), (-1, 0, 1), (3, 4, 5), (-5, 12, 13)]):
            self.assertEqual(through(list(five)), CIRCLE)
        for five in itertools.permutations([(0, 0, 1), (1, 1, 1), (2, 4, 1), (0, 1, 0), (-3, 9, 1)]):
            self.assertEqual(through(list(five)), PARABOLA)

    def test_three_on_a_line_in_any_order(self):
        spots = [(0, 0, 1), (1, 0, 1), (1, 0, 0), (0, 1, 1), (0, 2, 1)]
        for five in itertools.permutations(spots):
            self.assertEqual(self.check(five), CROSSED)
        for five in itertools.permutations([(0, 0, 1), (1, 0, 1), (3, 0, 1), (1, 1, 1), (2, 3, 1)]):
            self.assertEqual(self.check(five), of_lines((0, 1, 0), line_of((1, 1, 1), (2, 3, 1))))

    def test_two_threes_on_a_line(self):
        spots = [(0, 0, 1), (1, 0, 1), (2, 0, 1), (0, 1, 1), (0, 2, 1)]
        for five in itertools.permutations(spots):
            self.assertEqual(self.check(five), CROSSED)

    def test_alike_ahead_of_four_on_a_line(self):
        chance = random.Random(23)
        spots = small_rows(1)
        seen = set()
        for again in range(3000):
            five = [chance.choice(spots[:10]) for place in range(5)]
            if len(set(five)) < 5:
                seen.add("alike")
                with self.assertRaises(Alike):
                    through(five)
            elif not may_be_five(five):
                seen.add("four")
                with self.assertRaises(FourOnLine):
                    through(five)
            else:
                seen.add("curve")
                self.check(five)
        self.assertEqual(seen, {"alike", "four", "curve"})

    def test_two_alike_among_four_of_a_line(self):
        line = [(0, 0, 1), (1, 0, 1), (2, 0, 1)]
        with self.assertRaises(Alike):
            through(line + [line[0], (0, 1, 1)])
        with self.assertRaises(Alike):
            through(line + [(0, 1, 1), (0, 1, 1)])
        with self.assertRaises(FourOnLine):
            through(line + [(5, 0, 1), (0, 1, 1)])
        with self.assertRaises(FourOnLine):
            through([(k, k, 1) for k in range(5)])

    def test_only_one_curve(self):
        five = [(0, 0, 1), (1, 0, 1), (0, 1, 1), (1, 1, 1), (2, 5, 1)]
        curve = self.check(five)
        others = [row for row in small_rows(3, 6)[::7] if all(worth_by_words(row, spot) == 0 for spot in five)]
        self.assertEqual([row for row in others if row != curve], [])

    def test_great_numbers(self):
        n = THREE_HUNDRED
        self.check([(n, 0, 1), (0, n, 1), (1, 1, 1), (n, n + 1, 1), (n - 1, 2, n)])


class Carried(unittest.TestCase):
    def test_just_the_led_spots(self):
        for by in some_maps(8, seed=26):
            for curve in CURVES:
                other = carried(by, curve)
                self.assertTrue(is_plain_row(other))
                for spot in small_rows(2):
                    self.assertEqual(is_on_curve(other, mapped(by, spot)), worth_by_words(curve, spot) == 0)

    def test_by_a_map_and_its_back(self):
        for by in some_maps(12, seed=27):
            for curve in CURVES:
                self.assertEqual(carried(back(by), carried(by, curve)), curve)
                self.assertEqual(carried((1, 0, 0, 0, 1, 0, 0, 0, 1), curve), curve)

    def test_the_told_one(self):
        self.assertEqual(carried((1, 0, 2, 0, 1, 3, 0, 0, 1), CIRCLE), (1, 0, 1, -4, -6, 12))
        self.assertEqual(carried((2, 0, 0, 0, 1, 0, 0, 0, 1), (0, 0, 0, 0, 0, 1)), (0, 0, 0, 0, 0, 1))

    def test_roundness_and_two_lines_go_along(self):
        for by in some_maps(6, seed=28):
            for curve in CURVES:
                self.assertIs(is_round(carried(by, curve)), is_round(curve))
            lines = [(1, 0, 0), (1, 2, 3), (0, 0, 1)]
            for line, other in itertools.product(lines, repeat=2):
                led = of_lines(led_line_by(by, line), led_line_by(by, other))
                self.assertEqual(carried(by, of_lines(line, other)), led)

    def test_the_curve_of_five_goes_along(self):
        five = [(0, 0, 1), (1, 0, 1), (0, 1, 1), (1, 1, 1), (2, 5, 1)]
        for by in some_maps(10, seed=29):
            self.assertEqual(through([mapped(by, spot) for spot in five]), carried(by, through(five)))

    def test_lines_about_touching_lines_and_other_ends_go_along(self):
        for by in some_maps(6, seed=30):
            for curve in [CIRCLE, PARABOLA, HYPERBOLA]:
                other = carried(by, curve)
                for spot in small_rows(2):
                    led = mapped(by, spot)
                    self.assertEqual(line_about(other, led), led_line_by(by, line_about(curve, spot)))
                    if is_on_curve(curve, spot):
                        self.assertEqual(touching(other, led), led_line_by(by, touching(curve, spot)))
                        for off in [(2, 1, 1), (0, 3, 1), (1, 1, 0)]:
                            line = line_of(spot, off) if spot != off else (1, 0, 0)
                            if sum(a * b for a, b in zip(spot, line)) == 0:
                                end = other_end(curve, spot, line)
                                self.assertEqual(other_end(other, led, led_line_by(by, line)), mapped(by, end))


if __name__ == "__main__":
    unittest.main()
