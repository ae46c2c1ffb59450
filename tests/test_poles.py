import itertools
import unittest

from easelroom.curves import of_lines
from easelroom.errors import InCurve, Knot, NotOn, NotRound
from easelroom.poles import line_about, other_end, spot_about, touching
from samples import THREE_HUNDRED, is_plain_row, line_of, made_plain, small_rows
from test_curves import CIRCLE, CROSSED, CURVES, DOUBLE, EMPTY, HYPERBOLA, ONE_SPOT, PARABOLA, worth_by_words

SPOTS = small_rows(2)
ROUND = [CIRCLE, PARABOLA, HYPERBOLA, EMPTY, (2, -3, 5, 7, -11, 13)]


def dots(curve, spot):
    a, b, c, d, e, f = curve
    rows = [(2 * a, b, d), (b, 2 * c, e), (d, e, 2 * f)]
    return [sum(x * y for x, y in zip(row, spot)) for row in rows]


def lies(spot, line):
    return sum(a * b for a, b in zip(spot, line)) == 0


def lines_through(spot):
    return [line for line in SPOTS if lies(spot, line)]


class LinesAbout(unittest.TestCase):
    def test_told_ones(self):
        self.assertEqual(line_about(CIRCLE, (0, 0, 1)), (0, 0, 1))
        self.assertEqual(line_about(CIRCLE, (2, 0, 1)), made_plain((2, 0, -1)))
        self.assertEqual(line_about(CIRCLE, (1, 0, 1)), made_plain((1, 0, -1)))
        self.assertEqual(line_about(CROSSED, (1, 1, 1)), (1, 1, 0))
        self.assertEqual(line_about(CROSSED, (1, 0, 0)), (0, 1, 0))

    def test_the_dots_made_plain(self):
        for curve in CURVES:
            for spot in SPOTS:
                numbers = dots(curve, spot)
                if any(numbers):
                    self.assertEqual(line_about(curve, spot), made_plain(numbers))
                else:
                    with self.assertRaises(Knot):
                        line_about(curve, spot)

    def test_knots(self):
        for curve, spot in [(CROSSED, (0, 0, 1)), (ONE_SPOT, (0, 0, 1)), (DOUBLE, (-1, 1, 0)), (DOUBLE, (0, 0, 1))]:
            with self.assertRaises(Knot):
                line_about(curve, spot)
        for curve in ROUND:
            for spot in SPOTS:
                self.assertTrue(is_plain_row(line_about(curve, spot)))

    def test_each_on_the_other_s_line(self):
        for curve in ROUND + [CROSSED]:
            for one, other in itertools.product(SPOTS[::3], repeat=2):
                if any(dots(curve, one)) and any(dots(curve, other)):
                    self.assertEqual(lies(one, line_about(curve, other)), lies(other, line_about(curve, one)))


class SpotsAbout(unittest.TestCase):
    def test_there_and_back(self):
        for curve in ROUND:
            for row in SPOTS:
                self.assertEqual(spot_about(curve, line_about(curve, row)), row)
                self.assertEqual(line_about(curve, spot_about(curve, row)), row)

    def test_told_ones(self):
        self.assertEqual(spot_about(CIRCLE, (0, 0, 1)), (0, 0, 1))
        self.assertEqual(spot_about(CIRCLE, made_plain((2, 0, -1))), (2, 0, 1))
        self.assertEqual(spot_about(PARABOLA, (0, 0, 1)), (0, 1, 0))

    def test_not_round(self):
        for curve in [CROSSED, DOUBLE, ONE_SPOT, (0, 0, 0, 0, 0, 1), of_lines((1, 2, 3), (3, 2, 1))]:
            for line in SPOTS[::5]:
                with self.assertRaises(NotRound):
                    spot_about(curve, line)

    def test_great_numbers(self):
        n = THREE_HUNDRED
        self.assertEqual(spot_about(CIRCLE, line_about(CIRCLE, (n, n + 1, n - 1))), (n, n + 1, n - 1))


class TouchingLines(unittest.TestCase):
    def test_of_spots_of_a_round_curve_it_meets_it_there_alone(self):
        for curve in ROUND:
            for spot in SPOTS:
                if worth_by_words(curve, spot) != 0:
                    with self.assertRaises(NotOn):
                        touching(curve, spot)
                    continue
                line = touching(curve, spot)
                self.assertTrue(lies(spot, line))
                on = [one for one in small_rows(4) if lies(one, line) and worth_by_words(curve, one) == 0]
                self.assertEqual(on, [spot])

    def test_told_ones(self):
        self.assertEqual(touching(PARABOLA, (0, 0, 1)), (0, 1, 0))
        self.assertEqual(touching(PARABOLA, (0, 1, 0)), (0, 0, 1))
        self.assertEqual(touching(CROSSED, (5, 0, 1)), (0, 1, 0))

    def test_not_on_ahead_of_knot(self):
        with self.assertRaises(NotOn):
            touching(CIRCLE, (0, 0, 1))
        with self.assertRaises(NotOn):
            touching(CROSSED, (1, 1, 1))
        with self.assertRaises(Knot):
            touching(CROSSED, (0, 0, 1))
        with self.assertRaises(Knot):
            touching(DOUBLE, (-1, 1, 1))
        with self.assertRaises(Knot):
            touching(ONE_SPOT, (0, 0, 1))
        with self.assertRaises(NotOn):
            touching((0, 0, 0, 0, 0, 1), (1, 1, 1))


class OtherEnds(unittest.TestCase):
    def test_all_small_ones(self):
        for curve in CURVES:
            for spot, line in itertools.product(SPOTS[::2], SPOTS):
                if worth_by_words(curve, spot) != 0 or not lies(spot, line):
                    with self.assertRaises(NotOn):
                        other_end(curve, spot, line)
                    continue
                inside = [one for one in small_rows(3) if lies(one, line)]
                if all(worth_by_words(curve, one) == 0 for one in inside):
                    with self.assertRaises(InCurve):
                        other_end(curve, spot, line)
                    continue
                end = other_end(curve, spot, line)
                self.assertTrue(is_plain_row(end))
                self.assertTrue(lies(end, line))
                self.assertEqual(worth_by_words(curve, end), 0)
                numbers = dots(curve, spot)
                same = not any(numbers) or made_plain(numbers) == line
                self.assertEqual(end == spot, same, (curve, spot, line))
                self.assertEqual(other_end(curve, end, line), spot)

    def test_told_ones(self):
        self.assertEqual(other_end(CIRCLE, (1, 0, 1), (0, 1, 0)), (-1, 0, 1))
        self.assertEqual(other_end(CIRCLE, (1, 0, 1), touching(CIRCLE, (1, 0, 1))), (1, 0, 1))
        self.assertEqual(other_end(CIRCLE, (-1, 0, 1), line_of((-1, 0, 1), (0, 1, 2))), (3, 4, 5))
        self.assertEqual(other_end(PARABOLA, (2, 4, 1), line_of((2, 4, 1), (0, 1, 0))), (0, 1, 0))
        self.assertEqual(other_end(CROSSED, (3, 0, 1), line_of((3, 0, 1), (0, 4, 1))), (0, 4, 1))

    def test_at_a_knot(self):
        self.assertEqual(other_end(CROSSED, (0, 0, 1), (-1, 1, 0)), (0, 0, 1))
        self.assertEqual(other_end(ONE_SPOT, (0, 0, 1), (1, 0, 0)), (0, 0, 1))
        self.assertEqual(other_end(DOUBLE, (0, 0, 1), (1, 0, 0)), (0, 0, 1))

    def test_refused_in_order(self):
        with self.assertRaises(NotOn):
            other_end(CROSSED, (1, 1, 1), (1, 0, 0))
        with self.assertRaises(NotOn):
            other_end(CROSSED, (0, 1, 1), (0, 1, 0))
        with self.assertRaises(NotOn):
            other_end(CIRCLE, (0, 0, 1), (1, 0, 0))
        with self.assertRaises(NotOn):
            other_end(CIRCLE, (1, 0, 1), (1, 0, 0))
        with self.assertRaises(InCurve):
            other_end(CROSSED, (0, 1, 1), (1, 0, 0))
        with self.assertRaises(InCurve):
            other_end(CROSSED, (0, 0, 1), (0, 1, 0))
        with self.assertRaises(InCurve):
            other_end(DOUBLE, (0, 0, 1), (1, 1, 0))

    def test_lines_through_a_spot(self):
        for spot in [(1, 0, 1), (0, 1, 1), (3, 4, 5), (-4, 3, 5)]:
            ends = {other_end(CIRCLE, spot, line) for line in lines_through(spot)}
            self.assertEqual(len(ends), len(lines_through(spot)))

    def test_great_numbers(self):
        n = THREE_HUNDRED
        spot = made_plain((2 * n, n * n - 1, n * n + 1))
        self.assertEqual(other_end(CIRCLE, spot, line_of(spot, (0, 1, 1))), (0, 1, 1))
        self.assertEqual(other_end(CIRCLE, (0, 1, 1), line_of(spot, (0, 1, 1))), spot)


if __name__ == "__main__":
    unittest.main()
