import copy
import itertools
import random
import unittest

from easelroom.errors import TooMuch
from easelroom.letters import is_sum, letter_sum, minus, number_sum, plus, times
from easelroom.placing import placed, standing
from easelroom.raws import claim_sums, free_thing, letter_count, raw, tie
from easelroom.worths import worth_at
from samples import EVERY, FIVE, FOUR, SEVEN, determinant, every, made_plain, sketched

CORNERS = [(0, 0, 1), (1, 0, 1), (0, 1, 1), (1, 1, 1)]


def cross(one, other):
    (a, b, c), (d, e, f) = one, other
    return (b * f - c * e, c * d - a * f, a * e - b * d)


def dot(one, other):
    return sum(a * b for a, b in zip(one, other))


def together(line, other):
    (l, m, n), (u, v, w) = line, other
    return (l * u, l * v + m * u, m * v, l * w + n * u, m * w + n * v, n * w)


def table(curve):
    a, b, c, d, e, f = curve
    return [(2 * a, b, d), (b, 2 * c, e), (d, e, 2 * f)]


def turned(rows):
    r, s, t = rows
    return [cross(s, t), cross(t, r), cross(r, s)]


def times_row(rows, row):
    return tuple(dot(one, row) for one in rows)


def sides(rows, one, other):
    return dot(one, times_row(rows, other))


def size(rows):
    return determinant(rows[0] + rows[1] + rows[2])


def raw_of_numbers(word, told):
    """The raw, of numbers, straight from the words of point 40."""
    if word in ("join", "meet"):
        return cross(*told)
    if word == "curve":
        p, q, r, s, t = told
        a, b, c, d = cross(p, q), cross(r, s), cross(p, r), cross(q, s)
        more, less = dot(a, t) * dot(b, t), dot(c, t) * dot(d, t)
        return tuple(x * more - y * less for x, y in zip(together(c, d), together(a, b)))
    rows = table(told[0])
    if word == "about":
        return times_row(rows, told[1])
    if word == "pole":
        return tuple(size(rows) * x for x in times_row(turned(rows), told[1]))
    curve, a, b = told
    return tuple(sides(rows, b, b) * x - 2 * sides(rows, a, b) * y for x, y in zip(a, b))


def claim_of_numbers(word, told):
    """The sums of a claim, of numbers, straight from the words of point 41."""
    if word == "same":
        if len(told[0]) == 3:
            return list(cross(*told))
        one, other = told
        return [one[i] * other[j] - one[j] * other[i] for i, j in itertools.combinations(range(6), 2)]
    if word == "on":
        return [dot(*told)] if len(told[1]) == 3 else [sides(table(told[1]), told[0], told[0])]
    if word in ("row", "bunch"):
        return [determinant(told[0] + told[1] + told[2])]
    if word == "touch":
        return [sides(turned(table(told[1])), told[0], told[0])]
    return [size(table(told[0]))]


def letter_things(rows):
    """Letter things of all rows, each the raw of those ahead."""
    things = []
    for k, row in enumerate(rows):
        things.append(free_thing(rows, k) if row[0] == "free" else raw(rows, things, k))
    return things


def at_numbers(thing, numbers):
    return tuple(worth_at(one, numbers) for one in thing)


def things_by_chance(chance, rows, letters):
    """Letter things of the due sorts, of any small letter sums."""
    def one_sum():
        total = number_sum(chance.randint(-2, 2), letters)
        for letter in range(letters):
            total = plus(total, times(number_sum(chance.randint(-2, 2), letters), letter_sum(letter, letters)))
        return total
    return [tuple(one_sum() for place in range(6 if row[0] == "curve" else 3)) for row in rows]


class FreeThings(unittest.TestCase):
    def test_letters(self):
        for many, awaited in enumerate([0, 0, 0, 0, 2, 4, 6]):
            self.assertEqual(letter_count([("free",)] * (many + 1)), awaited)
        self.assertEqual(letter_count(EVERY), 4)
        self.assertEqual(letter_count(sketched(FOUR + "; l join a b")[0]), 0)

    def test_corners_and_letters(self):
        rows = sketched(SEVEN)[0]
        for k in range(4):
            self.assertEqual(free_thing(rows, k), tuple(number_sum(number, 6) for number in CORNERS[k]))
        for k in range(4, 7):
            first = 2 * (k - 4)
            awaited = (letter_sum(first, 6), letter_sum(first + 1, 6), number_sum(1, 6))
            self.assertEqual(free_thing(rows, k), awaited)

    def test_fewer_free_rows_and_other_rows_between(self):
        self.assertEqual(free_thing([("free",)], 0), ((), (), (((), 1),)))
        rows = [("free",), ("free",), ("join", 0, 1), ("free",), ("free",), ("join", 0, 1), ("free",)]
        self.assertEqual(free_thing(rows, 3), ((), number_sum(1, 2), number_sum(1, 2)))
        self.assertEqual(free_thing(rows, 6), (letter_sum(0, 2), letter_sum(1, 2), number_sum(1, 2)))

    def test_as_in_the_standing_placing(self):
        numbers = (7, -2, 5, 3)
        spots = standing(EVERY, list(numbers))
        for k in range(6):
            self.assertEqual(at_numbers(free_thing(EVERY, k), numbers), spots[k])


class Raws(unittest.TestCase):
    def test_of_each_word_at_any_numbers(self):
        chance = random.Random(40)
        for again in range(6):
            things = things_by_chance(chance, EVERY, 2)
            for trial in range(4):
                numbers = tuple(chance.randint(-3, 4) for letter in range(2))
                held = [at_numbers(thing, numbers) for thing in things]
                for k, row in enumerate(EVERY):
                    if row[0] == "free":
                        continue
                    told = raw(EVERY, things[:k], k)
                    self.assertIsInstance(told, tuple)
                    self.assertTrue(all(is_sum(one, 2) for one in told))
                    awaited = raw_of_numbers(row[0], [held[number] for number in row[1:]])
                    self.assertEqual(at_numbers(told, numbers), awaited, row)

    def test_nothing_is_taken_out(self):
        rows = sketched(FOUR + "; l join a b; m join c d; x meet l m; y meet m l")[0]
        two = tuple(number_sum(number, 0) for number in (2, 4, 6))
        three = tuple(number_sum(number, 0) for number in (0, 0, 3))
        things = [two, three, two, three]
        things.append(raw(rows, things, 4))
        self.assertEqual(at_numbers(things[4], ()), (12, -6, 0))
        things.append(tuple(number_sum(number, 0) for number in (5, 7, 9)))
        self.assertEqual(at_numbers(raw(rows, things, 6), ()), cross((12, -6, 0), (5, 7, 9)))
        self.assertEqual(at_numbers(raw(rows, things, 7), ()), cross((5, 7, 9), (12, -6, 0)))

    def test_more_things_than_those_ahead(self):
        things = letter_things(EVERY)
        for k in range(6, len(EVERY)):
            self.assertEqual(raw(EVERY, things, k), raw(EVERY, things[:k], k))

    def test_at_numbers_the_placed_things_come_out(self):
        rows = sketched(FIVE + "; q curve a b c d e; l join a e; m join b c; x meet l m; t about q x; p pole q l"
                        "; o other q e x")[0]
        things = letter_things(rows)
        for numbers in [(2, 5), (3, 7), (-4, 9)]:
            awaited = placed(rows, standing(rows, list(numbers)))
            told = [at_numbers(thing, numbers) for thing in things]
            self.assertEqual([made_plain(thing) for thing in told], awaited)

    def test_nought_where_a_row_cannot_be_done(self):
        rows = sketched(FIVE + "; q curve a b c d e; l join a e; t about q e; p pole q l; o other q a e")[0]
        things = letter_things(rows)
        for numbers in [(0, 0), (1, 1)]:
            self.assertEqual(set(at_numbers(things[5], numbers)), {0})
        self.assertEqual(at_numbers(things[6], (0, 0)), (0, 0, 0))
        crossed = (5, 0)
        self.assertNotEqual(set(at_numbers(things[5], crossed)), {0})
        self.assertEqual(set(at_numbers(things[8], crossed)), {0})
        self.assertEqual(set(at_numbers(things[9], crossed)), {0})

    def test_ties(self):
        chance = random.Random(41)
        for again in range(8):
            things = things_by_chance(chance, EVERY, 4)
            told = tie(EVERY, things, every("o"))
            self.assertTrue(is_sum(told, 4))
            numbers = tuple(chance.randint(-3, 4) for letter in range(4))
            held = [at_numbers(thing, numbers) for thing in things]
            spot = held[every("e")]
            self.assertEqual(worth_at(told, numbers), sides(table(held[every("q")]), spot, spot))
        things = letter_things(EVERY)
        self.assertEqual(tie(EVERY, things, every("o")), ())
        rows = sketched(SEVEN + "; q curve a b c d e; o other q f g")[0]
        self.assertNotEqual(tie(rows, letter_things(rows[:8]), 8), ())

    def test_too_much(self):
        wide = tuple(((i, j), 1) for i in range(24) for j in range(25))
        rows = sketched(FIVE + "; l join a b; m join a e; q curve a b c d e; t about q a; p pole q l"
                        "; o other q a b")[0]
        things = [(wide, wide, wide)] * 7 + [(wide,) * 6] + [(wide,) * 3] * 3
        for k in range(5, 11):
            with self.assertRaises(TooMuch):
                raw(rows, things, k)
        with self.assertRaises(TooMuch):
            tie(rows, things, 10)
        for claim in [("same", 0, 1), ("on", 0, 5), ("row", 0, 1, 2), ("touch", 5, 7), ("parted", 7), ("on", 0, 7)]:
            with self.assertRaises(TooMuch):
                claim_sums(rows, things, claim)


class ClaimSums(unittest.TestCase):
    CLAIMS = [
        ("same", 0, 5), ("same", every("ab"), every("p")), ("same", every("q"), every("q")),
        ("on", 4, every("t")), ("on", 5, every("q")), ("row", 0, 4, every("o")),
        ("bunch", every("ab"), every("t"), every("xm")), ("touch", every("p"), every("q")), ("parted", every("q")),
    ]

    def test_each_claim_at_any_numbers(self):
        chance = random.Random(42)
        for again in range(5):
            things = things_by_chance(chance, EVERY, 4)
            for claim in self.CLAIMS:
                told = claim_sums(EVERY, things, claim)
                self.assertIsInstance(told, list)
                self.assertTrue(all(is_sum(one, 4) for one in told))
                for trial in range(3):
                    numbers = tuple(chance.randint(-3, 4) for letter in range(4))
                    held = [at_numbers(things[number], numbers) for number in claim[1:]]
                    self.assertEqual(list(at_numbers(told, numbers)), claim_of_numbers(claim[0], held), claim)

    def test_two_curves(self):
        chance = random.Random(43)
        rows = sketched(SEVEN + "; q curve a b c d e; r curve a b c d f")[0]
        things = things_by_chance(chance, rows, 6)
        told = claim_sums(rows, things, ("same", 7, 8))
        self.assertEqual(len(told), 15)
        for trial in range(4):
            numbers = tuple(chance.randint(-3, 4) for letter in range(6))
            held = [at_numbers(things[number], numbers) for number in (7, 8)]
            self.assertEqual(list(at_numbers(told, numbers)), claim_of_numbers("same", held))

    def test_how_many_sums(self):
        things = letter_things(EVERY)
        self.assertEqual([len(claim_sums(EVERY, things, claim)) for claim in self.CLAIMS], [3, 3, 15, 1, 1, 1, 1, 1, 1])

    def test_nought_of_what_always_holds(self):
        things = letter_things(EVERY)
        for claim in [("on", 4, every("q")), ("on", 0, every("t")), ("same", every("q"), every("q")),
                      ("on", every("o"), every("q")), ("row", 4, 5, every("o"))]:
            self.assertEqual(set(claim_sums(EVERY, things, claim)), {()})
        one, other = things[every("t")], things[every("ab")]
        self.assertNotEqual(minus(one[0], other[0]), ())

    def test_what_is_handed_in_stays_and_what_is_told_is_the_asker_s_own(self):
        rows, things = copy.deepcopy(EVERY), letter_things(EVERY)
        kept = list(things)
        raw(rows, things, every("o"))
        told = claim_sums(rows, things, ("same", 0, 1))
        told.clear()
        self.assertEqual(len(claim_sums(rows, things, ("same", 0, 1))), 3)
        self.assertEqual((rows, things), (EVERY, kept))


if __name__ == "__main__":
    unittest.main()
