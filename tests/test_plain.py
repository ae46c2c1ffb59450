import itertools
import math
import unittest

from easelroom.errors import Nothing
from easelroom.plain import divisor, is_plain, plain
from samples import NO_NUMBERS, NO_ROWS, THREE_HUNDRED, THREE_THOUSAND, alike_but_factor, is_plain_row


class Divisors(unittest.TestCase):
    def test_ordinary_numbers(self):
        self.assertEqual(divisor([12, 18]), 6)
        self.assertEqual(divisor([18, 12, 8]), 2)
        self.assertEqual(divisor([6, 10, 15]), 1)
        self.assertEqual(divisor([7]), 7)
        self.assertEqual(divisor([5, 5]), 5)
        self.assertEqual(divisor([1, 100]), 1)

    def test_numbers_below_nought(self):
        self.assertEqual(divisor([-12]), 12)
        self.assertEqual(divisor([-12, 18]), 6)
        self.assertEqual(divisor([12, -18]), 6)
        self.assertEqual(divisor([-12, -18, -27]), 3)
        self.assertEqual(divisor([0, -4]), 4)
        self.assertEqual(divisor([-4, 0]), 4)

    def test_noughts_among_the_numbers(self):
        self.assertEqual(divisor([0, 9, 0, 6]), 3)
        self.assertEqual(divisor([0, 0, 5]), 5)
        self.assertEqual(divisor([5, 0, 0]), 5)

    def test_noughts_alone_and_none(self):
        self.assertEqual(divisor([0]), 0)
        self.assertEqual(divisor([0, 0, 0]), 0)
        self.assertEqual(divisor([]), 0)
        self.assertEqual(divisor(()), 0)
        self.assertEqual(divisor((0, 0)), 0)

    def test_a_list_and_a_tuple(self):
        self.assertEqual(divisor([8, 20, -36]), 4)
        self.assertEqual(divisor((8, 20, -36)), 4)

    def test_all_small_threes(self):
        for three in itertools.product(range(-7, 8), repeat=3):
            self.assertEqual(divisor(three), math.gcd(*three), three)

    def test_great_numbers(self):
        common = 3 ** 310
        one = common * (10 ** 140 + 1)
        other = -common * (10 ** 140 + 3)
        self.assertEqual(divisor([one, other]), math.gcd(one, other))
        self.assertEqual(divisor([one, other]) % common, 0)
        self.assertEqual(divisor([THREE_HUNDRED, 0]), THREE_HUNDRED)
        self.assertEqual(divisor([THREE_HUNDRED, -THREE_HUNDRED]), THREE_HUNDRED)
        self.assertEqual(divisor([THREE_HUNDRED, THREE_HUNDRED + 1]), 1)
        self.assertEqual(divisor([-THREE_THOUSAND, 0, THREE_THOUSAND]), THREE_THOUSAND)

    def test_numbers_of_many_steps(self):
        one, other = 1, 1
        while len(str(other)) < 300:
            one, other = other, one + other
        self.assertEqual(divisor([6 * one, 6 * other]), 6)


class PlainRows(unittest.TestCase):
    def test_the_document_s_example(self):
        self.assertEqual(plain((0, -4, 6, 0)), (0, -2, 3, 0))
        self.assertEqual(plain([0, 4, -6, 0]), (0, -2, 3, 0))

    def test_the_last_number_that_is_not_nought_is_above_it(self):
        self.assertEqual(plain((3, -6, 0)), (-1, 2, 0))
        self.assertEqual(plain((-5, 0, 0)), (1, 0, 0))
        self.assertEqual(plain((4, 0, 0, 0)), (1, 0, 0, 0))
        self.assertEqual(plain((2, 4, -8)), (-1, -2, 4))
        self.assertEqual(plain((-2, -4, 8)), (-1, -2, 4))
        self.assertEqual(plain((0, 0, -9)), (0, 0, 1))

    def test_a_plain_row_stays(self):
        for row in [(1,), (0, 1), (-3, 2), (0, -2, 3, 0), (5, 0, -7, 1, 0, 0, 0, 0, 0)]:
            self.assertEqual(plain(row), row)
            self.assertEqual(plain(list(row)), row)

    def test_one_number_and_many(self):
        self.assertEqual(plain([-12]), (1,))
        self.assertEqual(plain([12]), (1,))
        self.assertEqual(plain(range(2, 26, 2)), tuple(range(1, 13)))

    def test_a_tuple_is_told_of_a_list_and_of_a_tuple(self):
        self.assertIsInstance(plain([2, 4]), tuple)
        self.assertIsInstance(plain((2, 4)), tuple)

    def test_all_small_threes(self):
        for three in itertools.product(range(-5, 6), repeat=3):
            if three == (0, 0, 0):
                continue
            row = plain(three)
            self.assertTrue(is_plain_row(row), three)
            self.assertTrue(alike_but_factor(row, three), three)
            for factor in (-6, -1, 2, 15):
                self.assertEqual(plain([factor * number for number in three]), row)

    def test_great_numbers(self):
        many = THREE_HUNDRED
        self.assertEqual(plain((2 * many, -4 * many)), (-1, 2))
        self.assertEqual(plain((many, many + 1, 0)), (many, many + 1, 0))
        self.assertEqual(plain((THREE_THOUSAND, -3 * THREE_THOUSAND)), (-1, 3))

    def test_noughts_alone_and_none_are_refused(self):
        for numbers in [[0], (0,), [0, 0, 0], (0,) * 9, [], ()]:
            with self.subTest(numbers=numbers):
                with self.assertRaises(Nothing):
                    plain(numbers)


class IsPlain(unittest.TestCase):
    def tells(self, truth, thing, many):
        with self.subTest(thing=thing, many=many):
            self.assertIs(is_plain(thing, many), truth)

    def test_just_so_many_numbers(self):
        for row in [(1,), (0, 1), (-3, 2), (0, -2, 3, 0), (7, 0, 0, 0, 1), (1,) + (0,) * 8]:
            for many in range(1, 10):
                self.tells(many == len(row), row, many)

    def test_a_common_divisor(self):
        self.tells(False, (2,), 1)
        self.tells(False, (2, 4), 2)
        self.tells(False, (-3, 0, 6), 3)
        self.tells(False, (0, 0, 5), 3)
        self.tells(True, (6, 10, 15), 3)

    def test_the_last_number_that_is_not_nought(self):
        self.tells(False, (-1,), 1)
        self.tells(False, (1, -1), 2)
        self.tells(False, (3, -2, 0, 0), 4)
        self.tells(False, (-1, 0, 0), 3)
        self.tells(True, (-1, 1), 2)
        self.tells(True, (-5, 1, 0), 3)

    def test_noughts(self):
        for many in range(1, 10):
            self.tells(False, (0,) * many, many)
        self.tells(False, (), 1)

    def test_a_list_in_the_place_of_the_tuple(self):
        self.tells(False, [1, 0, 0], 3)
        self.tells(False, [1], 1)

    def test_something_else_in_the_place_of_a_number(self):
        for wrong in NO_NUMBERS:
            for place in range(3):
                row = [1, 1, 1]
                row[place] = wrong
                self.tells(False, tuple(row), 3)
            self.tells(False, (wrong,), 1)

    def test_what_is_no_row_at_all(self):
        for thing in NO_ROWS:
            for many in (1, 2, 3, 6, 9):
                self.tells(False, thing, many)

    def test_all_small_threes(self):
        for three in itertools.product(range(-4, 5), repeat=3):
            awaited = three != (0, 0, 0) and is_plain_row(three)
            self.assertIs(is_plain(three, 3), awaited, three)

    def test_great_numbers(self):
        self.tells(True, (THREE_HUNDRED, THREE_HUNDRED + 1), 2)
        self.tells(False, (THREE_HUNDRED, 0, 2 * THREE_HUNDRED), 3)
        self.tells(False, (1, -THREE_HUNDRED), 2)


if __name__ == "__main__":
    unittest.main()
