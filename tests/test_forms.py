import itertools
import random
import unittest

from easelroom.errors import NoPicture
from easelroom.forms import form, kind_of, leading
from easelroom.maps import is_map
from samples import THREE_HUNDRED, determinant, lie_on_line, made_plain, mapped, small_rows, some_maps

TILES = [(1, 0, 0), (0, 1, 0), (0, 0, 1), (1, 1, 1)]
UNITS = TILES[:3]
ON = [(0, 0, 1), (1, 2, 1), (3, 6, 1), (1, 2, 0), (-1, -2, 3)]
OFF = (5, 1, 1)
FREE = [(0, 0, 1), (4, 1, 1), (1, 3, 1), (3, 3, 1)]

FOURS = [
    FREE,
    FREE + [(7, 2, 1), (0, 0, 1), (1, 0, 0)],
    [FREE[0], FREE[0], FREE[1], FREE[0], FREE[2], FREE[1], FREE[3]],
    [(0, 0, 1), (1, 0, 1), (2, 0, 1), (0, 1, 1), (0, 2, 1)],
    [(0, 0, 1), (1, 0, 1), (2, 0, 1), (3, 0, 1), (4, 0, 1), (1, 1, 1), (2, 1, 1)],
    [(1, 0, 0), (0, 1, 0), (0, 0, 1), (1, 1, 1), (-1, 1, 0), (2, 3, 1)],
    [(k, k * k, 1) for k in range(12)],
]
LINES = [
    ON[:3], ON, ON[:3] + [OFF], [OFF] + ON[:3], ON[:2] + [OFF] + ON[2:], [OFF, ON[0], OFF, ON[0], ON[1], ON[2], OFF],
    [ON[2], ON[2], ON[0], ON[0], ON[1], ON[1]], [(1, 0, 0), (0, 1, 0), (1, 1, 0)], ON[:3] * 4,
    [(k, 1, 1) for k in range(11)] + [(0, 0, 1)],
]
FEWS = [
    [OFF], [OFF] * 12, [ON[0], ON[1]], [ON[0], ON[1], ON[0]], [ON[0], ON[1], OFF], [OFF, ON[0], OFF, ON[1], ON[0]],
    [(1, 0, 0)], [(0, 0, 1), (1, 0, 0)], [(0, 1, 0), (0, 0, 1), (1, 0, 0)], [(0, 1, 0), (1, 0, 0)],
    [(1, 1, 0), (1, 0, 0)], [(0, 1, 1)], [(0, 0, 1), (0, 1, 0), (0, 0, 1)], [ON[0]] * 6 + [ON[1]] * 6,
]


def is_free(four):
    return not any(lie_on_line(*three) for three in itertools.combinations(four, 3))


def kind_by_trial(picture):
    if any(is_free(four) for four in itertools.combinations(picture, 4)):
        return "four"
    for three in itertools.combinations(picture, 3):
        if len(set(three)) == 3 and lie_on_line(*three):
            return "line"
    return "few"


def free_places(picture):
    """The first four free places, straight from the words."""
    return min(
        list(places) for places in itertools.permutations(range(len(picture)), 4)
        if list(places) == sorted(places) and is_free([picture[k] for k in places])
    )


def first_unlike(spots):
    return list(dict.fromkeys(spots))


class NoPictures(unittest.TestCase):
    def test_none_and_thirteen_are_refused(self):
        for asked in (kind_of, form, leading):
            for picture in [[], FREE * 3 + [OFF], [OFF] * 13, [(k, k * k, 1) for k in range(13)], ON * 5]:
                with self.assertRaises(NoPicture):
                    asked(picture)
            for picture in [[OFF], FREE * 3, [OFF] * 12]:
                asked(picture)


class Kinds(unittest.TestCase):
    def test_told_ones(self):
        for kind, pictures in [("four", FOURS), ("line", LINES), ("few", FEWS)]:
            for picture in pictures:
                with self.subTest(picture=picture):
                    self.assertEqual(kind_by_trial(picture), kind)
                    self.assertEqual(kind_of(picture), kind)
                    self.assertEqual(form(picture)[0], kind)

    def test_small_pictures_of_every_sort(self):
        chance = random.Random(14)
        spots = small_rows(1)
        for many in range(1, 8):
            for again in range(60):
                pool = chance.sample(spots, min(len(spots), chance.randint(1, 5)))
                picture = [chance.choice(pool) for place in range(many)]
                self.assertEqual(kind_of(picture), kind_by_trial(picture), picture)

    def test_two_unlike_spots_off_the_line_make_a_four(self):
        self.assertEqual(kind_of(ON[:3] + [OFF, OFF]), "line")
        self.assertEqual(kind_of(ON[:3] + [OFF, (5, 2, 1)]), "four")
        self.assertEqual(kind_of([OFF, ON[0], (5, 2, 1), ON[1], ON[2]]), "four")

    def test_two_on_a_line_and_one_off_it_are_few(self):
        self.assertEqual(kind_of([ON[0], ON[1], OFF]), "few")
        self.assertEqual(kind_of([ON[0], ON[0], ON[1], OFF, ON[1], OFF]), "few")


class Forms(unittest.TestCase):
    def check_leading(self, picture):
        """The map is one, and leads each spot to the form's spot at its place; the form's spots."""
        by = leading(picture)
        self.assertTrue(is_map(by), picture)
        told = form(picture)
        self.assertIsInstance(told, tuple)
        self.assertEqual(len(told), 2)
        self.assertIsInstance(told[1], list)
        self.assertEqual(told[1], [mapped(by, spot) for spot in picture])
        return told[1]

    def test_of_the_kind_four(self):
        for picture in FOURS:
            with self.subTest(picture=picture):
                led = self.check_leading(picture)
                places = free_places(picture)
                self.assertEqual([led[k] for k in places], TILES)

    def test_the_first_four_free_places_where_earlier_fours_are_not_free(self):
        self.assertEqual(free_places(FOURS[2]), [0, 2, 4, 6])
        self.assertEqual(free_places(FOURS[3]), [1, 2, 3, 4])
        self.assertEqual(free_places(FOURS[4]), [0, 1, 5, 6])
        for picture in FOURS[2:5]:
            led = self.check_leading(picture)
            self.assertEqual([led[k] for k in free_places(picture)], TILES)
        self.assertEqual(form(FOURS[3]), ("four", [(1, 1, 0), (1, 0, 0), (0, 1, 0), (0, 0, 1), (1, 1, 1)]))

    def test_many_pictures_of_the_kind_four(self):
        chance = random.Random(15)
        spots = small_rows(2)
        for many in (4, 5, 6, 8, 12):
            for again in range(25):
                pool = chance.sample(spots, 6)
                picture = [chance.choice(pool) for place in range(many)]
                if kind_by_trial(picture) == "four":
                    led = self.check_leading(picture)
                    self.assertEqual([led[k] for k in free_places(picture)], TILES)

    def test_of_the_kind_line(self):
        for picture in LINES:
            with self.subTest(picture=picture):
                led = self.check_leading(picture)
                on = [k for k in range(len(picture)) if led[k][2] == 0]
                self.assertEqual(first_unlike([led[k] for k in on])[:3], [(1, 0, 0), (0, 1, 0), (1, 1, 0)])
                self.assertEqual({led[k] for k in range(len(picture)) if k not in on} - {(0, 0, 1)}, set())

    def test_the_spot_off_the_line_goes_to_its_place(self):
        for place in range(4):
            picture = ON[:place] + [OFF] + ON[place:]
            self.assertEqual(form(picture)[1][place], (0, 0, 1))
        self.assertEqual(form([OFF] + ON[:3] + [OFF])[1], [(0, 0, 1), (1, 0, 0), (0, 1, 0), (1, 1, 0), (0, 0, 1)])

    def test_a_fourth_spot_of_the_line(self):
        picture = [(0, 0, 1), (1, 0, 1), (2, 0, 1), (3, 0, 1)]
        self.assertEqual(form(picture), ("line", [(1, 0, 0), (0, 1, 0), (1, 1, 0), (4, 3, 0)]))

    def test_of_the_kind_few(self):
        for picture in FEWS:
            with self.subTest(picture=picture):
                led = self.check_leading(picture)
                unlike = first_unlike(picture)
                self.assertEqual(first_unlike(led), UNITS[:len(unlike)])
                self.assertEqual(led, [UNITS[unlike.index(spot)] for spot in picture])

    def test_all_small_fews(self):
        spots = small_rows(1)
        for many in (1, 2, 3):
            for picture in itertools.permutations(spots, many):
                if many < 3 or determinant(picture[0] + picture[1] + picture[2]) != 0:
                    self.assertEqual(form(list(picture)), ("few", UNITS[:many]))

    def test_led_by_a_map_the_form_is_the_same(self):
        for picture in FOURS + LINES + FEWS:
            for by in some_maps(6):
                self.assertEqual(form([mapped(by, spot) for spot in picture]), form(picture))

    def test_the_form_of_a_form(self):
        for picture in FOURS + LINES + FEWS:
            self.assertEqual(form(form(picture)[1]), form(picture))

    def test_great_numbers(self):
        n = THREE_HUNDRED
        self.assertEqual(form([(n, 1, 1), (n, 2, 1), (n, 3, 1), (n, 4, 1)])[1][3], (4, 3, 0))
        self.check_leading([(n, k, 1) for k in range(5)] + [(k, n, n - 1) for k in range(5)])

    def test_what_was_told_grows_and_is_taken_again(self):
        picture = [made_plain([10 ** 299 + k, 10 ** 298 * k + 3, k * k * k + 1]) for k in range(6)]
        again = [mapped(leading(picture), spot) for spot in reversed(picture)]
        self.assertLess(max(len(str(abs(number))) for spot in again for number in spot), 3000)
        self.check_leading(again)


if __name__ == "__main__":
    unittest.main()
