import itertools
import unittest

from easelroom.errors import NoMap, NotFree, Nothing
from easelroom.maps import (
    STAY, are_free, back, is_map, led, led_line, map_between, map_of, size_of, then, tiles,
)
from easelroom.spots import join, lies_on, meet, on_line
from samples import (
    NO_NUMBERS, NO_ROWS, THREE_HUNDRED, THREE_THOUSAND, alike_but_factor, determinant, is_plain_row, lie_on_line,
    small_rows, some_free_fours, some_maps,
)

SMALL = small_rows(2)
MAPS = some_maps(24)
SHIFT = (1, 0, 2, 0, 1, 3, 0, 0, 1)
SWAP = (0, 1, 0, 1, 0, 0, 0, 0, 1)
FLAT = (1, 2, 3, 4, 5, 6, 7, 8, 9)
TILES = [(1, 0, 0), (0, 1, 0), (0, 0, 1), (1, 1, 1)]
CORNERS = [(0, 0, 1), (1, 0, 1), (0, 1, 1), (1, 1, 1)]


class Sizes(unittest.TestCase):
    def test_told_ones(self):
        self.assertEqual(size_of(STAY), 1)
        self.assertEqual(size_of(SWAP), -1)
        self.assertEqual(size_of(FLAT), 0)
        self.assertEqual(size_of([2, 0, 0, 0, 3, 0, 0, 0, 5]), 30)
        self.assertEqual(size_of((1, 2, 3, 4, 5, 6, 7, 8, 10)), -3)
        self.assertEqual(size_of([0] * 9), 0)

    def test_any_nine(self):
        for nine in itertools.product((-1, 0, 2), repeat=9):
            self.assertEqual(size_of(nine), determinant(nine))

    def test_great_numbers(self):
        n = THREE_HUNDRED
        self.assertEqual(size_of((n, 0, 0, 0, n, 0, 0, 0, -n)), -n * n * n)


class MakingMaps(unittest.TestCase):
    def test_of_a_tuple_and_of_a_list(self):
        nine = (0, -2, 0, -2, 0, 0, 0, 0, -4)
        self.assertEqual(map_of(nine), (0, 1, 0, 1, 0, 0, 0, 0, 2))
        self.assertEqual(map_of(list(nine)), (0, 1, 0, 1, 0, 0, 0, 0, 2))
        self.assertIsInstance(map_of(list(nine)), tuple)

    def test_a_map_stays(self):
        for made in MAPS + [STAY, SHIFT, SWAP]:
            self.assertEqual(map_of(made), made)
            self.assertEqual(map_of([-3 * number for number in made]), made)

    def test_noughts_are_refused_ahead_of_the_size(self):
        for nine in ([0] * 9, (0,) * 9):
            with self.assertRaises(Nothing):
                map_of(nine)

    def test_a_size_of_nought_is_refused(self):
        for nine in [FLAT, (1,) + (0,) * 8, (0,) * 8 + (-5,), (1,) * 9, (1, 0, 0, 0, 1, 0, 0, 0, 0)]:
            for numbers in (nine, list(nine)):
                with self.assertRaises(NoMap):
                    map_of(numbers)

    def test_is_map(self):
        for made in MAPS + [STAY, SHIFT, SWAP]:
            self.assertIs(is_map(made), True)
            self.assertIs(is_map(list(made)), False)
            self.assertIs(is_map(made[:8]), False)
            self.assertIs(is_map(made + (1,)), False)
            self.assertIs(is_map(tuple(2 * number for number in made)), False)
            self.assertIs(is_map(tuple(-number for number in made)), False)

    def test_is_map_of_what_has_no_size(self):
        for nine in [FLAT, (0,) * 9, (0,) * 8 + (1,), (1,) * 9]:
            self.assertIs(is_map(nine), False)

    def test_is_map_with_something_else_in_the_place_of_a_number(self):
        for wrong in NO_NUMBERS:
            for place in range(9):
                nine = list(STAY)
                nine[place] = wrong
                self.assertIs(is_map(tuple(nine)), False)

    def test_is_map_of_any_thing(self):
        rows = [((1, 0, 0), (0, 1, 0), (0, 0, 1)), [(1, 0, 0), (0, 1, 0), (0, 0, 1)], "1,0,0,0,1,0,0,0,1", "123456789"]
        for thing in NO_ROWS + rows:
            with self.subTest(thing=thing):
                self.assertIs(is_map(thing), False)


class Leading(unittest.TestCase):
    def test_told_spots(self):
        self.assertEqual(led(STAY, (3, -4, 2)), (3, -4, 2))
        self.assertEqual(led(SHIFT, (0, 0, 1)), (2, 3, 1))
        self.assertEqual(led(SHIFT, (1, 1, 2)), (5, 7, 2))
        self.assertEqual(led(SHIFT, (1, 1, 0)), (1, 1, 0))
        self.assertEqual(led(SWAP, (1, 2, 3)), (2, 1, 3))
        self.assertEqual(led((1, 2, 3, 0, 1, 4, 5, 6, 0), (1, 1, 1)), (6, 5, 11))

    def test_the_led_spot_is_made_plain(self):
        self.assertEqual(led((2, 0, 0, 0, 2, 0, 0, 0, 1), (1, 1, 2)), (1, 1, 1))
        self.assertEqual(led((1, 0, 0, 0, 1, 0, 0, -1, 1), (0, 2, 1)), (0, -2, 1))

    def test_spots_are_led_by_the_three_rows(self):
        for by in MAPS:
            for spot in SMALL:
                found = led(by, spot)
                x, y, z = spot
                rows = [by[k] * x + by[k + 1] * y + by[k + 2] * z for k in (0, 3, 6)]
                self.assertIsInstance(found, tuple)
                self.assertTrue(is_plain_row(found))
                self.assertTrue(alike_but_factor(found, rows))

    def test_told_lines(self):
        self.assertEqual(led_line(STAY, (3, -4, 2)), (3, -4, 2))
        self.assertEqual(led_line(SHIFT, (1, 0, 0)), (-1, 0, 2))
        self.assertEqual(led_line(SHIFT, (0, 0, 1)), (0, 0, 1))
        self.assertEqual(led_line(SWAP, (1, 2, 3)), (2, 1, 3))
        self.assertEqual(led_line((1, 0, 0, 0, 1, 0, 1, 0, 1), (0, 0, 1)), (-1, 0, 1))

    def test_just_the_led_spots_lie_on_the_led_line(self):
        sizes = [size_of(by) for by in MAPS]
        self.assertLess(min(sizes), 0)
        self.assertGreater(max(sizes), 0)
        for by in MAPS:
            for line in small_rows(1):
                found = led_line(by, line)
                self.assertIsInstance(found, tuple)
                self.assertTrue(is_plain_row(found))
                for spot in SMALL:
                    self.assertIs(lies_on(led(by, spot), found), lies_on(spot, line))

    def test_joins_and_meets_go_along(self):
        for by in MAPS[:8]:
            for one, other in itertools.permutations(small_rows(1), 2):
                self.assertEqual(join(led(by, one), led(by, other)), led_line(by, join(one, other)))
                self.assertEqual(meet(led_line(by, one), led_line(by, other)), led(by, meet(one, other)))

    def test_spots_of_a_line_stay_on_a_line(self):
        for by in MAPS[:6]:
            for three in itertools.combinations(small_rows(1), 3):
                self.assertIs(on_line([led(by, spot) for spot in three]), lie_on_line(*three))

    def test_great_numbers(self):
        n = THREE_HUNDRED
        far = (1, 0, n, 0, 1, -n, 0, 0, 1)
        self.assertEqual(led(far, (n, n, 1)), (2 * n, 0, 1))
        self.assertEqual(led_line(far, (1, 0, 0)), (-1, 0, n))


class ThenAndBack(unittest.TestCase):
    def test_stay(self):
        self.assertEqual(STAY, (1, 0, 0, 0, 1, 0, 0, 0, 1))
        self.assertIs(is_map(STAY), True)
        for by in MAPS:
            self.assertEqual(then(STAY, by), by)
            self.assertEqual(then(by, STAY), by)
        self.assertEqual(back(STAY), STAY)

    def test_told_ones(self):
        self.assertEqual(then(SHIFT, SWAP), (0, 1, 3, 1, 0, 2, 0, 0, 1))
        self.assertEqual(then(SWAP, SHIFT), (0, 1, 2, 1, 0, 3, 0, 0, 1))
        self.assertEqual(back(SHIFT), (1, 0, -2, 0, 1, -3, 0, 0, 1))
        self.assertEqual(back((0, 1, 0, 0, 0, 1, 1, 0, 0)), (0, 0, 1, 1, 0, 0, 0, 1, 0))
        self.assertEqual(back((2, 0, 0, 0, 1, 0, 0, 0, 1)), (1, 0, 0, 0, 2, 0, 0, 0, 2))

    def test_one_and_then_another_one(self):
        for one, other in itertools.product(MAPS[:12], repeat=2):
            both = then(one, other)
            self.assertIs(is_map(both), True)
            for row in small_rows(1):
                self.assertEqual(led(both, row), led(other, led(one, row)))
                self.assertEqual(led_line(both, row), led_line(other, led_line(one, row)))

    def test_a_map_and_its_back(self):
        for by in MAPS:
            undone = back(by)
            self.assertIs(is_map(undone), True)
            self.assertEqual(then(by, undone), STAY)
            self.assertEqual(then(undone, by), STAY)
            self.assertEqual(back(undone), by)
            for spot in SMALL:
                self.assertEqual(led(undone, led(by, spot)), spot)
                self.assertEqual(led(by, led(undone, spot)), spot)

    def test_all_maps_of_noughts_and_ones(self):
        for nine in itertools.product((0, 1), repeat=9):
            if determinant(nine) != 0:
                self.assertEqual(then(nine, back(nine)), STAY)
                self.assertEqual(then(back(nine), nine), STAY)
                self.assertEqual(back(back(nine)), nine)

    def test_great_numbers(self):
        for n in (THREE_HUNDRED, THREE_THOUSAND):
            by = (1, 0, n, 0, -1, n + 1, n + 3, 0, 1)
            self.assertEqual(then(by, back(by)), STAY)
            self.assertEqual(then(back(by), by), STAY)


class Tiles(unittest.TestCase):
    def test_the_four_in_their_order(self):
        self.assertEqual(tiles(), TILES)
        self.assertIsInstance(tiles(), list)

    def test_a_new_list_each_time(self):
        first = tiles()
        first[0] = (9, 9, 1)
        first.pop()
        self.assertEqual(tiles(), TILES)
        self.assertIsNot(tiles(), tiles())


class FreeFours(unittest.TestCase):
    def test_free_ones(self):
        for four in [TILES, CORNERS] + some_free_fours(40):
            for order in itertools.permutations(four):
                self.assertIs(are_free(list(order)), True)

    def test_two_alike_at_every_place(self):
        for i, j in itertools.permutations(range(4), 2):
            four = list(CORNERS)
            four[i] = four[j]
            self.assertIs(are_free(four), False)
        self.assertIs(are_free([(0, 0, 1)] * 4), False)

    def test_three_on_a_line_at_every_place(self):
        for order in itertools.permutations([(0, 0, 1), (1, 2, 1), (3, 6, 1), (1, 0, 1)]):
            self.assertIs(are_free(list(order)), False)
        for order in itertools.permutations([(1, 0, 0), (0, 1, 0), (1, 1, 0), (0, 0, 1)]):
            self.assertIs(are_free(list(order)), False)

    def test_four_on_a_line(self):
        self.assertIs(are_free([(0, 0, 1), (1, 0, 1), (2, 0, 1), (1, 0, 0)]), False)

    def test_each_four_of_small_ones(self):
        for four in itertools.combinations(small_rows(1), 4):
            bound = any(lie_on_line(*three) for three in itertools.combinations(four, 3))
            self.assertIs(are_free(list(four)), not bound)


class MapsBetween(unittest.TestCase):
    def leads(self, four, others):
        by = map_between(list(four), list(others))
        self.assertIs(is_map(by), True)
        self.assertEqual([led(by, spot) for spot in four], list(others))
        return by

    def test_told_ones(self):
        self.assertEqual(self.leads(TILES, TILES), STAY)
        self.assertEqual(self.leads(CORNERS, CORNERS), STAY)
        self.assertEqual(self.leads(CORNERS, [(2, 3, 1), (3, 3, 1), (2, 4, 1), (3, 4, 1)]), SHIFT)
        self.assertEqual(self.leads(CORNERS, [CORNERS[0], CORNERS[2], CORNERS[1], CORNERS[3]]), SWAP)

    def test_each_order_of_the_corners(self):
        for order in itertools.permutations(CORNERS):
            self.leads(CORNERS, order)
            self.leads(order, TILES)

    def test_each_goes_to_the_one_at_its_place(self):
        fours = some_free_fours(16)
        for four, others in itertools.product(fours, repeat=2):
            self.assertEqual(back(self.leads(four, others)), map_between(others, four))

    def test_there_is_just_one(self):
        for four in some_free_fours(8):
            for by in MAPS:
                self.assertEqual(map_between(four, [led(by, spot) for spot in four]), by)

    def test_fours_that_are_not_free(self):
        bound = [(0, 0, 1), (1, 2, 1), (3, 6, 1), (1, 0, 1)]
        alike = [(0, 0, 1), (1, 0, 1), (0, 1, 1), (0, 0, 1)]
        for order in list(itertools.permutations(bound)) + list(itertools.permutations(alike)):
            for free in (TILES, CORNERS):
                with self.assertRaises(NotFree):
                    map_between(list(order), free)
                with self.assertRaises(NotFree):
                    map_between(free, list(order))
            with self.assertRaises(NotFree):
                map_between(list(order), list(order))

    def test_great_numbers(self):
        for n in (THREE_HUNDRED, THREE_THOUSAND):
            four = [(n, 1, 1), (1, n, 1), (-n, 2, 3), (n + 2, -n, 1)]
            self.leads(four, TILES)
            self.leads(TILES, four)
        self.leads([(THREE_HUNDRED, 1, 1), (1, 0, 0), (0, 1, 0), (1, 1, THREE_HUNDRED)], CORNERS)


if __name__ == "__main__":
    unittest.main()
