import itertools
import random
import unittest

from easelroom.errors import Apart, NoPicture
from easelroom.forms import form
from easelroom.maps import is_map
from easelroom.pictures import apart, map_to
from easelroom.throws import throw
from samples import THREE_HUNDRED, lie_on_line, mapped, small_rows, some_maps, spots_of_line
from test_forms import FEWS, FOURS, FREE, LINES, OFF, ON, free_places, is_free, kind_by_trial

SHIFT = (1, 0, 2, 0, 1, 3, 0, 0, 1)


def on_one_line(spots):
    return all(lie_on_line(*three) for three in itertools.combinations(spots, 3))


def at(picture, places):
    return [picture[k] for k in places]


def apart_by_words(one, other):
    """What tells two pictures apart, straight from the words of point 16."""
    if len(one) != len(other):
        return ("many", ())
    span = range(len(one))
    for i, j in itertools.combinations(span, 2):
        if (one[i] == one[j]) is not (other[i] == other[j]):
            return ("two", (i, j))
    for three in itertools.combinations(span, 3):
        if on_one_line(at(one, three)) is not on_one_line(at(other, three)):
            return ("three", three)
    for four in itertools.combinations(span, 4):
        spots = at(one, four)
        if on_one_line(spots) and max(spots.count(spot) for spot in spots) < 3:
            if throw(*spots) != throw(*at(other, four)):
                return ("throw", four)
    if kind_by_trial(one) == "four":
        for place in span:
            if form(one)[1][place] != form(other)[1][place]:
                return ("five", tuple(free_places(one)) + (place,))
    return None


class NoPictures(unittest.TestCase):
    def test_either_of_two_and_ahead_of_all_else(self):
        for asked in (apart, map_to):
            for wrong in [[], [OFF] * 13, FREE * 4]:
                for one, other in [(wrong, FREE), (FREE, wrong), (wrong, wrong), ([], FREE * 4)]:
                    with self.assertRaises(NoPicture):
                        asked(one, other)
            with self.assertRaises(NoPicture):
                asked([OFF] * 13, [OFF] * 14)


class Told(unittest.TestCase):
    def tells(self, awaited, one, other):
        with self.subTest(one=one, other=other):
            self.assertEqual(apart(one, other), awaited)
            if awaited is None:
                self.assertEqual(form(one), form(other))
                by = map_to(one, other)
                self.assertTrue(is_map(by))
                self.assertEqual([mapped(by, spot) for spot in one], other)
            else:
                with self.assertRaises(Apart) as taken:
                    map_to(one, other)
                self.assertEqual((taken.exception.word, taken.exception.places), awaited)

    def both(self, awaited, one, other):
        self.tells(awaited, one, other)
        self.tells(awaited, other, one)

    def test_many(self):
        self.both(("many", ()), [OFF], [OFF, OFF])
        self.both(("many", ()), FREE, FREE + [FREE[0]])
        self.both(("many", ()), ON[:2] + ON[:2], ON[:3])

    def test_two(self):
        self.both(("two", (0, 1)), [ON[0], ON[0]], [ON[0], ON[1]])
        self.both(("two", (1, 3)), [ON[0], ON[1], ON[2], ON[1]], [ON[0], ON[1], ON[2], OFF])
        self.both(("two", (0, 2)), [ON[0], ON[1], ON[0], ON[1]], [ON[0], ON[1], ON[2], OFF])
        self.both(("two", (0, 1)), [ON[0], ON[0], ON[1]], [ON[0], ON[1], ON[1]])
        self.both(("two", (1, 2)), [ON[0], ON[1], ON[2], ON[2]], [ON[0], ON[1], ON[1], ON[1]])

    def test_three(self):
        self.both(("three", (0, 1, 2)), ON[:3], [ON[0], ON[1], OFF])
        self.both(("three", (0, 1, 3)), FREE, [FREE[0], FREE[1], FREE[2], (8, 2, 1)])
        self.both(("three", (1, 2, 3)), [(5, 0, 1)] + FREE[1:], [(5, 0, 1), (0, 0, 1), (0, 1, 1), (0, 2, 1)])

    def test_throw(self):
        self.both(("throw", (0, 1, 2, 3)), [(k, 0, 1) for k in (0, 1, 2, 3)], [(k, 0, 1) for k in (0, 1, 2, 4)])
        self.both(("throw", (0, 1, 2, 4)), [(k, 0, 1) for k in (0, 1, 2, 3, 4, 5)],
                  [(k, 0, 1) for k in (0, 1, 2, 3, 5, 6)])
        self.both(("throw", (0, 2, 3, 4)), [(0, 0, 1), (0, 0, 1), (1, 0, 1), (2, 0, 1), (3, 0, 1)],
                  [(0, 0, 1), (0, 0, 1), (1, 0, 1), (2, 0, 1), (4, 0, 1)])
        self.both(("throw", (1, 2, 3, 4)), [OFF] + [ON[k] for k in (0, 1, 2, 3)], [OFF] + [ON[k] for k in (0, 1, 3, 2)])

    def test_throw_of_a_second_line_of_the_floor(self):
        base = [(0, 0, 1), (1, 0, 1), (2, 0, 1), (5, 0, 1), (0, 1, 1), (0, 2, 1)]
        self.both(("throw", (0, 4, 5, 6)), base + [(0, 3, 1)], base + [(0, 4, 1)])

    def test_five(self):
        self.both(("five", (0, 1, 2, 3, 4)), FREE + [(7, 1, 1)], FREE + [(7, 5, 1)])
        self.both(("five", (0, 1, 2, 3, 5)), FREE + [(7, 1, 1), (20, 11, 1)], FREE + [(7, 1, 1), (20, 13, 1)])
        doubled = [FREE[0], FREE[0]] + FREE[1:]
        self.both(("five", (0, 2, 3, 4, 5)), doubled + [(7, 1, 1)], doubled + [(7, 5, 1)])

    def test_five_with_a_place_ahead_of_the_free_ones(self):
        one = [(0, 0, 1), (1, 0, 1), (2, 0, 1), (0, 1, 1), (0, 2, 1)]
        self.assertEqual(free_places(one), [1, 2, 3, 4])
        self.assertEqual(apart_by_words(one, one), None)
        self.tells(None, one, [mapped(SHIFT, spot) for spot in one])

    def test_the_first_word_where_several_are_due(self):
        self.both(("many", ()), ON[:3] + [ON[0]], [ON[0], ON[1], OFF])
        self.both(("two", (3, 4)), ON[:3] + [ON[3], ON[3]], [ON[0], ON[1], OFF, FREE[1], FREE[2]])
        self.both(("three", (2, 3, 4)), [(0, 0, 1), (3, 1, 1), (7, 0, 1), (7, 1, 1), (7, 2, 1)],
                  [(0, 0, 1), (3, 1, 1), (7, 0, 1), (7, 1, 1), (8, 2, 1)])
        self.both(("throw", (0, 4, 5, 6)), [(0, 0, 1), (1, 0, 1), (0, 1, 1), (17, 5, 1), (3, 4, 1), (6, 8, 1), (9, 12, 1)],
                  [(0, 0, 1), (1, 0, 1), (0, 1, 1), (17, 6, 1), (3, 4, 1), (6, 8, 1), (12, 16, 1)])

    def test_of_one_floor(self):
        for picture in FOURS + LINES + FEWS:
            self.tells(None, picture, list(picture))
            for by in some_maps(4, seed=17):
                led = [mapped(by, spot) for spot in picture]
                self.both(None, picture, led)

    def test_all_the_told_pictures_beside_one_another(self):
        pictures = [picture for picture in FOURS + LINES + FEWS if len(picture) < 8]
        for one, other in itertools.product(pictures, repeat=2):
            awaited = apart_by_words(one, other)
            self.assertEqual(awaited is None, len(one) == len(other) and form(one) == form(other))
            self.tells(awaited, one, other)

    def test_pictures_by_chance_with_alike_spots_and_spots_of_a_line(self):
        chance = random.Random(16)
        spots = small_rows(2)
        line = spots_of_line((1, -1, 0), 4)
        words = set()
        for again in range(1500):
            pool = chance.sample(spots if again % 2 else line, chance.randint(2, 7))
            many = chance.randint(1, 7)
            one = [chance.choice(pool) for place in range(many)]
            other = list(one)
            if chance.random() < 0.7:
                other[chance.randrange(many)] = chance.choice(spots if again % 2 else line)
            awaited = apart_by_words(one, other)
            words.add(awaited and awaited[0])
            self.tells(awaited, one, other)
        self.assertEqual(words, {None, "two", "three", "throw", "five"})

    def test_twelve_spots(self):
        one = [(k, k * k, 1) for k in range(12)]
        self.tells(None, one, [mapped(SHIFT, spot) for spot in one])
        self.both(("five", (0, 1, 2, 3, 11)), one, one[:11] + [(13, 169, 1)])
        self.assertTrue(is_free(one[:4]))

    def test_great_numbers(self):
        n = THREE_HUNDRED
        one = [(n, k, 1) for k in range(4)] + [(k, n, n - 1) for k in range(2)]
        self.tells(None, one, [mapped(SHIFT, spot) for spot in one])
        self.both(("throw", (0, 1, 2, 3)), one, one[:3] + [(n, 4, 1)] + one[4:])


if __name__ == "__main__":
    unittest.main()
