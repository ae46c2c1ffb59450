import itertools
import random
import unittest

from easelroom.errors import Alike, NotOn, ThreeOnLine
from easelroom.curves import through
from easelroom.poles import other_end, touching
from easelroom.roads import crossings, is_closed
from easelroom.rounds import other_by_edge, touching_by_edge
from samples import THREE_HUNDRED, lie_on_line, line_of, made_plain, mapped, small_rows, some_maps
from test_curves import worth_by_words

FIVE = [(0, 0, 1), (1, 0, 1), (0, 1, 1), (1, 1, 1), (2, 5, 1)]
CIRCLE_SPOTS = [(1, 0, 1), (0, 1, 1), (-1, 0, 1), (3, 4, 5), (-5, 12, 13)]
PARABOLA_SPOTS = [(0, 0, 1), (1, 1, 1), (2, 4, 1), (0, 1, 0), (-3, 9, 1)]


def some_fives(many, seed=27, greatest=3):
    """Lists of five spots, no three on one line, always the same ones."""
    chance = random.Random(seed)
    spots = small_rows(greatest)
    found = []
    while len(found) < many:
        five = [chance.choice(spots) for place in range(5)]
        if not any(lie_on_line(*three) for three in itertools.combinations(five, 3)):
            found.append(five)
    return found


FIVES = some_fives(25) + [FIVE, CIRCLE_SPOTS, PARABOLA_SPOTS]


def lies(spot, line):
    return sum(a * b for a, b in zip(spot, line)) == 0


def crossings_by_words(road):
    sides = [line_of(road[k], road[(k + 1) % 6]) for k in range(6)]
    return [line_of(sides[0], sides[3]), line_of(sides[1], sides[4]), line_of(sides[2], sides[5])]


class Roads(unittest.TestCase):
    def test_crossings(self):
        for five in FIVES:
            for sixth in small_rows(2)[::3]:
                if sixth not in (five[0], five[4]):
                    told = crossings(five + [sixth])
                    self.assertIsInstance(told, list)
                    self.assertEqual(told, crossings_by_words(five + [sixth]))

    def test_told_ones(self):
        road = [(0, 0, 1), (1, 0, 1), (0, 1, 1), (1, 1, 1), (2, 5, 1), (7, 3, 1)]
        self.assertEqual(crossings(road)[0], (3, 0, 4))
        road = [(0, 0, 1), (1, 0, 1), (0, 1, 0), (2, 3, 1), (4, 7, 1), (1, 5, 1)]
        self.assertEqual(crossings(road), [(1, 0, 2), (1, 5, 1), (2, 10, 1)])

    def test_closed_just_on_the_curve(self):
        closed = 0
        for five in FIVES:
            curve = through(five)
            for sixth in small_rows(3):
                if sixth not in (five[0], five[4]):
                    awaited = worth_by_words(curve, sixth) == 0
                    closed += awaited
                    self.assertIs(is_closed(five + [sixth]), awaited)
        self.assertGreater(closed, 80)

    def test_other_ends_close_the_road(self):
        for five in FIVES:
            curve = through(five)
            for aim in small_rows(1):
                if aim != five[1]:
                    sixth = other_end(curve, five[1], line_of(five[1], aim))
                    if sixth not in (five[0], five[4]):
                        self.assertIs(is_closed(five + [sixth]), True)

    def test_the_sixth_like_the_second_third_or_fourth(self):
        for five in FIVES:
            for place in (1, 2, 3):
                self.assertIs(is_closed(five + [five[place]]), True)
                self.assertEqual(len(crossings(five + [five[place]])), 3)

    def test_alike(self):
        for five in FIVES:
            for place in (0, 4):
                for asked in (crossings, is_closed):
                    with self.assertRaises(Alike):
                        asked(five + [five[place]])

    def test_three_on_a_line_ahead_of_alike(self):
        for places in itertools.combinations(range(5), 3):
            five = list(FIVE)
            for place, spot in zip(places, [(0, 7, 1), (1, 8, 1), (3, 10, 1)]):
                five[place] = spot
            for sixth in [five[0], five[4], five[2], (20, 30, 1)]:
                for asked in (crossings, is_closed):
                    with self.assertRaises(ThreeOnLine):
                        asked(five + [sixth])

    def test_two_alike_among_the_five_lie_on_a_line_with_a_third(self):
        for i, j in itertools.combinations(range(5), 2):
            five = list(FIVE)
            five[i] = five[j]
            with self.assertRaises(ThreeOnLine):
                crossings(five + [(20, 30, 1)])

    def test_a_sixth_on_a_line_with_two_of_the_five(self):
        self.assertIs(is_closed(FIVE + [(5, 0, 1)]), False)
        self.assertIs(is_closed(FIVE + [line_of(line_of(FIVE[3], FIVE[4]), line_of(FIVE[0], FIVE[1]))]), False)

    def test_led_by_maps(self):
        for by in some_maps(6, seed=31):
            for sixth in [(7, 3, 1), (1, 1, 0)]:
                led = [mapped(by, spot) for spot in FIVE + [sixth]]
                self.assertEqual(crossings(led), [mapped(by, spot) for spot in crossings(FIVE + [sixth])])

    def test_great_numbers(self):
        n = THREE_HUNDRED
        sixth = made_plain((2 * n, n * n - 1, n * n + 1))
        self.assertIs(is_closed(CIRCLE_SPOTS + [sixth]), True)
        self.assertIs(is_closed(CIRCLE_SPOTS + [(n, n, 1)]), False)

    def test_a_told_list_is_the_asker_s_own(self):
        road = FIVE + [(7, 3, 1)]
        told = crossings(road)
        told.clear()
        self.assertEqual(road, FIVE + [(7, 3, 1)])
        self.assertEqual(len(crossings(road)), 3)


class ByStraightEdge(unittest.TestCase):
    def walk(self, things, steps):
        """Does the steps, each of which must be one that can be done; the last thing."""
        self.assertIsInstance(steps, list)
        self.assertLessEqual(len(steps), 10)
        things = list(things)
        for step in steps:
            self.assertIsInstance(step, tuple)
            word, i, j = step
            self.assertIn(word, ("join", "meet"))
            needed, made = ("spot", "line") if word == "join" else ("line", "spot")
            self.assertTrue(0 <= i < len(things) and 0 <= j < len(things))
            self.assertEqual((things[i][0], things[j][0]), (needed, needed))
            self.assertNotEqual(things[i][1], things[j][1])
            things.append((made, line_of(things[i][1], things[j][1])))
        return things[-1]

    def test_other_ends(self):
        for five in FIVES:
            curve = through(five)
            lines = [line for line in small_rows(3) if lies(five[4], line)]
            lines += [line_of(five[4], spot) for spot in five[:4]] + [touching(curve, five[4])]
            for line in lines:
                with self.subTest(five=five, line=line):
                    steps = other_by_edge(five, line)
                    begun = [("spot", spot) for spot in five] + [("line", line)]
                    self.assertEqual(self.walk(begun, steps), ("spot", other_end(curve, five[4], line)))

    def test_through_each_of_the_four_others(self):
        for five in FIVES:
            for spot in five[:4]:
                line = line_of(five[4], spot)
                begun = [("spot", one) for one in five] + [("line", line)]
                self.assertEqual(self.walk(begun, other_by_edge(five, line)), ("spot", spot))

    def test_touching_lines(self):
        for five in FIVES:
            for turned in range(5):
                spots = five[turned:] + five[:turned]
                steps = touching_by_edge(spots)
                told = self.walk([("spot", spot) for spot in spots], steps)
                self.assertEqual(told, ("line", touching(through(five), spots[4])))

    def test_three_on_a_line_ahead_of_not_on(self):
        for places in itertools.combinations(range(5), 3):
            five = list(FIVE)
            for place, spot in zip(places, [(0, 7, 1), (1, 8, 1), (3, 10, 1)]):
                five[place] = spot
            for line in [line_of(five[4], (20, 31, 1)), (0, 0, 1)]:
                with self.assertRaises(ThreeOnLine):
                    other_by_edge(five, line)
            with self.assertRaises(ThreeOnLine):
                touching_by_edge(five)
        with self.assertRaises(ThreeOnLine):
            touching_by_edge(FIVE[:4] + [FIVE[0]])

    def test_not_on(self):
        for five in FIVES:
            for line in small_rows(1):
                if not lies(five[4], line):
                    with self.assertRaises(NotOn):
                        other_by_edge(five, line)

    def test_a_told_list_is_the_asker_s_own(self):
        line = line_of(FIVE[4], (7, 3, 1))
        for asked in (lambda: other_by_edge(FIVE, line), lambda: touching_by_edge(FIVE)):
            told = asked()
            kept = list(told)
            told.reverse()
            told.append(None)
            self.assertEqual(asked(), kept)


if __name__ == "__main__":
    unittest.main()
