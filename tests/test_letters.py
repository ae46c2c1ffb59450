import itertools
import random
import unittest

from easelroom.errors import NoPart, TooMuch
from easelroom.letters import is_sum, letter_sum, minus, number_sum, parted, plus, times
from easelroom.worths import away, common, height, lighter, put, worth_at
from samples import NO_NUMBERS, THREE_HUNDRED, any_things

ONE = (((0, 0), 1),)


def gathered(terms):
    """The letter sum of any terms, told anew."""
    totals = {}
    for powers, number in terms:
        totals[powers] = totals.get(powers, 0) + number
    return tuple(sorted((powers, number) for powers, number in totals.items() if number != 0))


def product_by_terms(one, other):
    return gathered(
        (tuple(a + b for a, b in zip(p, q)), m * n) for p, m in one for q, n in other
    )


def worth_by_words(one, numbers):
    total = 0
    for powers, number in one:
        for power, letter in zip(powers, numbers):
            number *= letter ** power
        total += number
    return total


def by_chance(chance, letters, terms=6, power=4, greatest=5):
    return gathered(
        (tuple(chance.randint(0, power) for letter in range(letters)), chance.randint(-greatest, greatest))
        for term in range(chance.randint(0, terms))
    )


def many_terms(many, letters=2):
    """A letter sum of just so many terms."""
    span = itertools.product(range(25), repeat=2)
    return tuple((powers + (0,) * (letters - 2), 1) for powers in itertools.islice(span, many))


def chain(letter, letters, many):
    """1 and a letter, its square and so on: so many terms."""
    return tuple((tuple(k if place == letter else 0 for place in range(letters)), 1) for k in range(many))


class IsSum(unittest.TestCase):
    def tells(self, truth, thing, letters):
        with self.subTest(thing=str(thing)[:200], letters=letters):
            self.assertIs(is_sum(thing, letters), truth)

    def test_of_each_number_of_letters(self):
        for letters in range(9):
            self.tells(True, (), letters)
            self.tells(True, (((0,) * letters, -7),), letters)
            self.tells(True, (((60,) * letters, THREE_HUNDRED),), letters)
            if letters > 0:
                self.tells(True, (((0,) * letters, 1), ((0,) * (letters - 1) + (1,), 2), ((2,) * letters, 3)), letters)
            for other in range(9):
                self.tells(letters == other, (((1,) * letters, 1),), other)

    def test_how_many_terms(self):
        self.tells(True, many_terms(600), 2)
        self.tells(False, many_terms(601), 2)
        self.tells(True, many_terms(600, 8), 8)
        self.tells(False, many_terms(601, 8), 8)

    def test_order_and_sameness(self):
        self.tells(True, (((0, 5), 1), ((1, 0), 1), ((1, 1), 1)), 2)
        self.tells(False, (((1, 0), 1), ((0, 5), 1)), 2)
        self.tells(False, (((0, 5), 1), ((1, 1), 1), ((1, 0), 1)), 2)
        self.tells(False, (((1, 0), 1), ((1, 0), 1)), 2)
        self.tells(False, (((1, 0), 1), ((1, 0), -1)), 2)
        self.tells(False, (((), 1), ((), 2)), 0)

    def test_powers(self):
        self.tells(True, (((0, 60), 1),), 2)
        self.tells(False, (((0, 61), 1),), 2)
        self.tells(False, (((-1, 0), 1),), 2)
        self.tells(False, (((0,), 1),), 2)
        self.tells(False, (((0, 0, 0), 1),), 2)
        self.tells(False, (([0, 0], 1),), 2)
        self.tells(False, ((0, 1),), 2)
        for wrong in NO_NUMBERS:
            self.tells(False, (((wrong, 0), 1),), 2)
            self.tells(False, (((0, wrong), 1),), 2)
            self.tells(False, ((wrong, 1),), 2)

    def test_numbers(self):
        self.tells(False, (((0, 0), 0),), 2)
        self.tells(False, (((0, 0), 1), ((0, 1), 0)), 2)
        for wrong in NO_NUMBERS:
            self.tells(False, (((0, 0), wrong),), 2)

    def test_terms(self):
        for wrong in [None, True, 0, "", "x", (), ((0, 0),), ((0, 0), 1, 1), [(0, 0), 1], (1, (0, 0)), [], [[0, 0], 1]]:
            self.tells(False, (wrong,), 2)
            self.tells(False, (((0, 0), 1), wrong), 2)

    def test_any_thing(self):
        for thing in any_things():
            for letters in (0, 1, 2, 8):
                self.tells(thing == (), thing, letters)
        self.tells(False, [], 2)
        self.tells(False, [((0, 0), 1)], 2)


class Reckoning(unittest.TestCase):
    def test_numbers_and_letters(self):
        self.assertEqual(number_sum(0, 3), ())
        self.assertEqual(number_sum(-5, 3), (((0, 0, 0), -5),))
        self.assertEqual(number_sum(7, 0), (((), 7),))
        self.assertEqual(letter_sum(0, 1), (((1,), 1),))
        self.assertEqual(letter_sum(2, 4), (((0, 0, 1, 0), 1),))
        for letters in range(1, 9):
            for letter in range(letters):
                self.assertTrue(is_sum(letter_sum(letter, letters), letters))
                numbers = list(range(10, 10 + letters))
                self.assertEqual(worth_at(letter_sum(letter, letters), tuple(numbers)), 10 + letter)

    def test_by_chance_as_the_terms_and_the_worths_are(self):
        chance = random.Random(30)
        for again in range(400):
            letters = chance.randint(0, 5)
            one, other = by_chance(chance, letters), by_chance(chance, letters)
            less = tuple((powers, -number) for powers, number in other)
            numbers = tuple(chance.randint(-4, 9) for letter in range(letters))
            for told, awaited in [
                (plus(one, other), gathered(one + other)),
                (minus(one, other), gathered(one + less)),
                (times(one, other), product_by_terms(one, other)),
            ]:
                self.assertTrue(is_sum(told, letters))
                self.assertEqual(told, awaited)
            here, there = worth_by_words(one, numbers), worth_by_words(other, numbers)
            self.assertEqual(worth_at(plus(one, other), numbers), here + there)
            self.assertEqual(worth_at(minus(one, other), numbers), here - there)
            self.assertEqual(worth_at(times(one, other), numbers), here * there)

    def test_terms_that_fall_away(self):
        x, y = letter_sum(0, 2), letter_sum(1, 2)
        self.assertEqual(minus(x, x), ())
        self.assertEqual(plus(x, minus(y, x)), y)
        self.assertEqual(times(plus(x, y), minus(x, y)), (((0, 2), -1), ((2, 0), 1)))
        self.assertEqual(times(x, ()), ())
        self.assertEqual(times((), ()), ())
        self.assertEqual(plus((), ()), ())
        self.assertEqual(minus((), y), (((0, 1), -1),))

    def test_no_letters(self):
        self.assertEqual(times(number_sum(6, 0), number_sum(-7, 0)), (((), -42),))
        self.assertEqual(plus(number_sum(6, 0), number_sum(-6, 0)), ())

    def test_six_hundred_terms_of_a_sum(self):
        many = many_terms(600)
        self.assertEqual(len(plus(many[:300], many[300:])), 600)
        more = many_terms(601)
        with self.assertRaises(TooMuch):
            plus(more[:300], more[300:])
        with self.assertRaises(TooMuch):
            minus(more[:300], more[300:])
        self.assertEqual(plus(many, minus((), many)), ())
        self.assertEqual(len(minus(many, many[:100])), 500)
        swapped = tuple((powers, -1) for powers, number in many[:1]) + (((24, 24), 1),)
        self.assertEqual(len(plus(many, swapped)), 600)

    def test_six_hundred_terms_of_a_product(self):
        self.assertEqual(len(times(chain(0, 3, 24), chain(1, 3, 25))), 600)
        with self.assertRaises(TooMuch):
            times(chain(0, 3, 43), chain(1, 3, 14))
        self.assertEqual(times(number_sum(3, 2), many_terms(600)), tuple((p, 3) for p, n in many_terms(600)))

    def test_terms_that_fall_away_do_not_count(self):
        one = times(chain(0, 2, 30), chain(1, 2, 20))
        less = minus(letter_sum(0, 2), number_sum(1, 2))
        told = times(one, less)
        self.assertEqual(told, product_by_terms(one, less))
        self.assertEqual(len(told), 40)
        self.assertEqual(len(one), 600)

    def test_powers_of_sixty(self):
        half = (((30, 0), 2),)
        self.assertEqual(times(half, half), (((60, 0), 4),))
        with self.assertRaises(TooMuch):
            times(half, (((31, 0), 2),))
        with self.assertRaises(TooMuch):
            times((((0, 60), 1),), letter_sum(1, 2))
        self.assertEqual(times((((0, 60), 1),), letter_sum(0, 2)), (((1, 60), 1),))
        self.assertEqual(times((((0, 60), 1),), ()), ())
        with self.assertRaises(TooMuch):
            times((((0, 0), 1), ((60, 0), 1)), (((0, 0), 1), ((1, 0), 1)))
        self.assertEqual(plus((((60, 60), 1),), (((60, 60), 1),)), (((60, 60), 2),))

    def test_pairs_of_terms(self):
        one = times(chain(0, 2, 31), chain(1, 2, 10))[:200]
        other = times(chain(0, 2, 20), chain(1, 2, 5))
        self.assertEqual((len(one), len(other)), (200, 100))
        self.assertEqual(times(one, other), product_by_terms(one, other))
        more = times(chain(0, 2, 25), chain(1, 2, 8)) + (((25, 0), 1),)
        self.assertEqual(len(more), 201)
        with self.assertRaises(TooMuch):
            times(more, other)
        with self.assertRaises(TooMuch):
            times(other, more)

    def test_one_pair_of_terms_too_many(self):
        one = times(chain(0, 2, 18), chain(1, 2, 10))[:177]
        other = times(chain(0, 2, 12), chain(1, 2, 10))[:113]
        self.assertEqual(len(one) * len(other), 20001)
        self.assertLessEqual(len(product_by_terms(one, other)), 600)
        with self.assertRaises(TooMuch):
            times(one, other)
        self.assertEqual(times(one, other[1:]), product_by_terms(one, other[1:]))

    def test_great_numbers(self):
        n = THREE_HUNDRED
        self.assertEqual(times(number_sum(n, 1), number_sum(-n, 1)), (((0,), -n * n),))


class Parts(unittest.TestCase):
    def test_of_a_product_the_part_is_the_factor(self):
        chance = random.Random(31)
        for again in range(300):
            letters = chance.randint(0, 4)
            one, other = by_chance(chance, letters), by_chance(chance, letters)
            if other:
                self.assertEqual(parted(times(one, other), other), one)
            if one and other:
                self.assertEqual(parted(times(one, other), one), other)

    def test_none_just_where_there_is_none(self):
        chance = random.Random(32)
        told = set()
        for again in range(600):
            letters = chance.randint(1, 2)
            one = by_chance(chance, letters, 4, 2, 3)
            other = by_chance(chance, letters, 2, 1, 2)
            if other:
                part = parted(one, other)
                told.add(part is None)
                if part is not None:
                    self.assertTrue(is_sum(part, letters))
                    self.assertEqual(product_by_terms(part, other), one)
        self.assertEqual(told, {True, False})

    def test_a_rest_in_a_power_or_a_number(self):
        x, y = letter_sum(0, 2), letter_sum(1, 2)
        self.assertIsNone(parted(x, y))
        self.assertIsNone(parted(ONE, x))
        self.assertIsNone(parted(number_sum(7, 2), number_sum(2, 2)))
        self.assertEqual(parted(number_sum(-8, 2), number_sum(2, 2)), number_sum(-4, 2))
        self.assertEqual(parted(number_sum(8, 2), number_sum(-2, 2)), number_sum(-4, 2))
        self.assertIsNone(parted(plus(times(x, x), ONE), plus(x, ONE)))
        self.assertEqual(parted(minus(times(x, x), ONE), plus(x, ONE)), minus(x, ONE))
        self.assertIsNone(parted(plus(times(x, y), y), plus(x, y)))
        self.assertIsNone(parted(x, times(number_sum(2, 2), x)))
        self.assertIsNone(parted(letter_sum(0, 1), plus(letter_sum(0, 1), number_sum(1, 1))))

    def test_nought(self):
        x = letter_sum(0, 2)
        self.assertEqual(parted((), x), ())
        for one in [(), x, ONE]:
            with self.assertRaises(NoPart):
                parted(one, ())

    def test_six_hundred_terms_and_more(self):
        def stripes(a, b):
            one = minus((((a, 0), 1),), number_sum(1, 2))
            other = minus((((0, b), 1),), number_sum(1, 2))
            return times(one, other)
        self.assertEqual(parted(stripes(30, 20), stripes(1, 1)), times(chain(0, 2, 30), chain(1, 2, 20)))
        with self.assertRaises(TooMuch):
            parted(stripes(43, 14), stripes(1, 1))
        with self.assertRaises(TooMuch):
            parted(stripes(60, 60), stripes(1, 1))

    def test_what_is_left_on_the_way_has_no_bound(self):
        one = (((60, 0), 1),)
        other = (((0, 60), 1), ((1, 0), 1))
        self.assertIsNone(parted(one, other))
        self.assertEqual(parted(product_by_terms(chain(0, 2, 30), other), other), chain(0, 2, 30))

    def test_great_numbers(self):
        n = THREE_HUNDRED
        self.assertEqual(parted(number_sum(n * (n + 1), 1), number_sum(n, 1)), number_sum(n + 1, 1))


class Worths(unittest.TestCase):
    def test_worth_at(self):
        self.assertEqual(worth_at((), ()), 0)
        self.assertEqual(worth_at((), (1, 2, 3)), 0)
        self.assertEqual(worth_at((((), 9),), ()), 9)
        self.assertEqual(worth_at((((0, 0), 5), ((2, 1), -3)), (2, 7)), 5 - 84)
        self.assertEqual(worth_at((((0, 0), 5), ((2, 1), -3)), (0, 0)), 5)
        self.assertEqual(worth_at((((60,), 1),), (-2,)), 2 ** 60)

    def test_by_chance(self):
        chance = random.Random(33)
        for again in range(300):
            letters = chance.randint(0, 8)
            one = by_chance(chance, letters, 10)
            numbers = tuple(chance.randint(-9, 9) for letter in range(letters))
            self.assertEqual(worth_at(one, numbers), worth_by_words(one, numbers))
            for letter in range(letters):
                told = put(one, letter, numbers[letter])
                self.assertTrue(is_sum(told, letters))
                self.assertTrue(all(powers[letter] == 0 for powers, number in told))
                for there in (-3, 0, 5):
                    others = numbers[:letter] + (there,) + numbers[letter + 1:]
                    self.assertEqual(worth_by_words(told, others), worth_by_words(one, numbers))
                self.assertEqual(height(one, letter), max([powers[letter] for powers, number in one] + [0]))

    def test_put(self):
        one = (((0, 1), 2), ((1, 0), 3), ((2, 1), 1))
        self.assertEqual(put(one, 0, 0), (((0, 1), 2),))
        self.assertEqual(put(one, 0, 2), (((0, 0), 6), ((0, 1), 6)))
        self.assertEqual(put(one, 1, -2), (((0, 0), -4), ((1, 0), 3), ((2, 0), -2)))
        self.assertEqual(put(minus(letter_sum(0, 2), number_sum(4, 2)), 0, 4), ())
        self.assertEqual(put((), 1, 4), ())

    def test_heights(self):
        one = (((0, 7), 2), ((1, 0), 3), ((5, 1), 1))
        self.assertEqual((height(one, 0), height(one, 1)), (5, 7))
        self.assertEqual((height((), 0), height(ONE, 1)), (0, 0))

    def test_away_by_the_words(self):
        chance = random.Random(34)
        for again in range(300):
            letters = chance.randint(0, 4)
            one = by_chance(chance, letters, 5, 3)
            for factor in range(chance.randint(0, 2)):
                letter = chance.randrange(letters) if letters else 0
                if letters:
                    one = times(one, minus(letter_sum(letter, letters), number_sum(chance.randint(0, 3), letters)))
            if not one:
                continue
            told = away(one, letters)
            self.assertIsInstance(told, tuple)
            self.assertEqual(len(told), letters)
            self.assertNotEqual(worth_by_words(one, told), 0)
            left = one
            for letter in range(letters):
                for less in range(told[letter]):
                    self.assertEqual(put(left, letter, less), ())
                left = put(left, letter, told[letter])
                self.assertNotEqual(left, ())

    def test_away(self):
        x, y = letter_sum(0, 2), letter_sum(1, 2)
        self.assertEqual(away(ONE, 2), (0, 0))
        self.assertEqual(away(x, 2), (1, 0))
        self.assertEqual(away(minus(x, y), 2), (0, 1))
        self.assertEqual(away(times(x, minus(x, ONE)), 2), (2, 0))
        self.assertEqual(away(times(x, minus(x, y)), 2), (1, 0))
        self.assertEqual(away(number_sum(-3, 0), 0), ())
        for letters in (0, 1, 2, 8):
            with self.assertRaises(NoPart):
                away((), letters)


class Lighter(unittest.TestCase):
    def test_common(self):
        self.assertEqual(common(()), 0)
        self.assertEqual(common((((0, 0), -6),)), 6)
        self.assertEqual(common((((0, 0), -6), ((0, 1), 15), ((1, 0), 9))), 3)
        self.assertEqual(common((((0, 0), 4), ((0, 1), 9))), 1)

    def test_number_powers_and_sign(self):
        one = (((1, 2), 6), ((2, 3), -9))
        self.assertEqual(lighter((one,)), ((((0, 0), -2), ((1, 1), 3)),))
        self.assertEqual(lighter((one, ())), ((((0, 0), -2), ((1, 1), 3)), ()))
        self.assertEqual(lighter(((), one, (((1, 1), 3),))), ((), (((0, 1), 2), ((1, 2), -3)), (((0, 0), 1),)))
        self.assertEqual(lighter(((((0, 0), 4),), (((0, 0), -6),), ())), ((((0, 0), -2),), (((0, 0), 3),), ()))
        self.assertEqual(lighter(((((), -4),), (((), 6),))), ((((), -2),), (((), 3),)))

    def test_by_chance(self):
        chance = random.Random(35)
        for again in range(300):
            letters = chance.randint(1, 4)
            some = tuple(by_chance(chance, letters, 4, 3, 4) for place in range(chance.randint(1, 6)))
            if not any(some):
                continue
            shift = ((tuple(chance.randint(0, 2) for letter in range(letters)), chance.choice([-6, -1, 2, 5])),)
            told = lighter(tuple(times(one, shift) for one in some))
            self.assertIsInstance(told, tuple)
            self.assertEqual(told, lighter(some))
            self.assertEqual(lighter(told), told)
            terms = [term for one in told for term in one]
            self.assertEqual(common(gathered((tuple([k]), n) for k, (p, n) in enumerate(terms))), 1)
            for letter in range(letters):
                self.assertEqual(min(powers[letter] for powers, number in terms), 0)
            self.assertGreater([one for one in told if one][-1][-1][1], 0)
            first = [k for k in range(len(some)) if some[k]][0]
            for one, light in zip(some, told):
                self.assertTrue(is_sum(light, letters))
                self.assertEqual(product_by_terms(one, told[first]), product_by_terms(light, some[first]))


if __name__ == "__main__":
    unittest.main()
