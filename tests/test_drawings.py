import copy
import itertools
import random
import unittest

from easelroom.claims import holds, is_claim
from easelroom.curves import carried, through
from easelroom.drawings import free_rows, is_drawing, sort_of
from easelroom.errors import Stuck
from easelroom.placing import is_of_kind, placed, standing
from easelroom.poles import line_about, other_end, spot_about, touching
from samples import (
    EVERY, FIVE, FOUR, SEVEN, SIX, THREE_HUNDRED, any_things, every, lie_on_line, line_of, mapped, sketched,
    small_rows, some_maps,
)
from test_curves import led_line_by, worth_by_words

CORNERS = [(0, 0, 1), (1, 0, 1), (0, 1, 1), (1, 1, 1)]
FREE = ("free",)
TAKEN = {
    "free": "", "join": "pp", "meet": "ll", "curve": "ppppp", "about": "qp", "pole": "ql", "other": "qpp",
}
# Rows of each sort, to be named by those behind: spots 0 to 4, lines 5 and 6, curves 7 and 8.
BASE = [FREE] * 5 + [("join", 0, 1), ("join", 2, 3), ("curve", 0, 1, 2, 3, 4), ("curve", 4, 3, 2, 1, 0)]
OF_SORT = {"p": (0, 1, 2, 3, 4), "l": (5, 6), "q": (7, 8)}
FALSE_NUMBERS = [True, False, None, "0", "a", (0,), [0], (), [], -1, -5, 10 ** 20]


class Drawings(unittest.TestCase):
    def tells(self, truth, thing):
        with self.subTest(thing=str(thing)[:300]):
            self.assertIs(is_drawing(thing), truth)

    def test_how_many_rows(self):
        self.tells(True, [FREE])
        self.tells(True, [FREE, FREE] + [("join", 0, 1)] * 22)
        self.tells(False, [FREE, FREE] + [("join", 0, 1)] * 23)
        self.tells(False, [])
        for many in range(1, 8):
            self.tells(True, [FREE] * many)
        self.tells(False, [FREE] * 8)
        self.tells(False, [FREE] * 7 + [("join", 0, 1), FREE])
        self.tells(True, [FREE] * 6 + [("join", 0, 1)] * 17 + [FREE])

    def test_each_word_with_its_things(self):
        self.tells(True, EVERY)
        for word, sorts in TAKEN.items():
            row = (word,) + tuple(OF_SORT[sort][0] for sort in sorts)
            self.tells(True, BASE + [row])
            row = (word,) + tuple(OF_SORT[sort][-1] for sort in sorts)
            self.tells(True, BASE + [row])

    def test_the_same_thing_twice_is_a_drawing_still(self):
        self.tells(True, [FREE, ("join", 0, 0), ("meet", 1, 1), ("curve", 0, 0, 0, 0, 0), ("other", 3, 0, 0)])

    def test_one_too_many_and_one_too_few(self):
        for word, sorts in TAKEN.items():
            row = (word,) + tuple(OF_SORT[sort][0] for sort in sorts)
            for more in (0, 5, 7):
                self.tells(False, BASE + [row + (more,)])
            if sorts:
                self.tells(False, BASE + [row[:-1]])
        self.tells(False, BASE + [()])

    def test_the_wrong_sort(self):
        for word, sorts in TAKEN.items():
            for place, sort in enumerate(sorts):
                for wrong in "plq":
                    row = [word] + [OF_SORT[one][0] for one in sorts]
                    row[1 + place] = OF_SORT[wrong][0]
                    self.tells(wrong == sort, BASE + [tuple(row)])

    def test_numbers_of_no_row_ahead(self):
        for word, sorts in TAKEN.items():
            for place in range(len(sorts)):
                for wrong in FALSE_NUMBERS + [9, 10, 11]:
                    row = [word] + [OF_SORT[one][0] for one in sorts]
                    row[1 + place] = wrong
                    self.tells(False, BASE + [tuple(row), ("join", 0, 1), ("meet", 5, 6)])

    def test_its_own_number(self):
        self.tells(False, [("join", 0, 0)])
        self.tells(False, [FREE, FREE, ("join", 0, 2)])
        self.tells(False, [FREE, ("meet", 1, 1)])

    def test_lists_and_tuples_in_one_another_s_place(self):
        self.tells(False, tuple(BASE))
        self.tells(False, [list(row) for row in BASE])
        self.tells(False, BASE + [["free"]])
        self.tells(False, [["free"]])
        self.tells(False, ("free",))
        self.tells(False, (("free",),))

    def test_words_that_are_none(self):
        for word in ["", "Free", "free ", "spot", "line", None, True, 0, ("free",), ["free"], [], ()]:
            self.tells(False, [(word,)])
            self.tells(False, BASE + [(word, 0, 1)])

    def test_any_thing(self):
        for thing in any_things():
            self.tells(thing == [("free",)], thing)
            self.tells(False, [thing] if thing != ("free",) else [thing, thing, None])
            self.tells(thing in [("free",), ("join", 0, 1)], BASE + [thing])

    def test_sorts(self):
        awaited = ["spot"] * 6 + ["curve", "line", "line", "spot", "line", "line", "spot", "spot", "line"]
        self.assertEqual([sort_of(EVERY, k) for k in range(len(EVERY))], awaited)

    def test_free_rows(self):
        self.assertEqual(free_rows(EVERY), [0, 1, 2, 3, 4, 5])
        rows = [FREE, FREE, ("join", 0, 1), FREE, ("join", 0, 3), FREE]
        self.assertEqual(free_rows(rows), [0, 1, 3, 5])
        told = free_rows(rows)
        told.clear()
        self.assertEqual(free_rows(rows), [0, 1, 3, 5])


class Placings(unittest.TestCase):
    def stuck(self, text, spots, at):
        rows = sketched(text)[0]
        with self.subTest(text=text, spots=spots):
            self.assertTrue(is_drawing(rows))
            with self.assertRaises(Stuck) as taken:
                placed(rows, spots)
            self.assertEqual(taken.exception.at, at)

    def test_the_things_of_each_word(self):
        spots = CORNERS + [(2, 5, 1), (7, -3, 2)]
        things = placed(EVERY, spots)
        self.assertIsInstance(things, list)
        self.assertEqual(things[:6], spots)
        curve = things[every("q")]
        self.assertEqual(curve, through(spots[:5]))
        self.assertEqual(things[every("ab")], (0, 1, 0))
        self.assertEqual(things[every("cd")], (0, -1, 1))
        self.assertEqual(things[every("m")], (1, 0, 0))
        self.assertEqual(things[every("t")], touching(curve, spots[0]))
        self.assertEqual(things[every("p")], line_about(curve, spots[5]))
        self.assertEqual(things[every("x")], spot_about(curve, (0, 1, 0)))
        self.assertEqual(things[every("o")], other_end(curve, spots[4], line_of(spots[4], spots[5])))
        self.assertEqual(things[every("xm")], line_of(things[every("x")], (1, 0, 0)))

    def test_free_rows_between_others(self):
        rows = [FREE, FREE, ("join", 0, 1), FREE, FREE, ("join", 3, 4), ("meet", 2, 5)]
        self.assertEqual(placed(rows, CORNERS)[6], (1, 0, 0))
        self.assertEqual(placed(rows, CORNERS)[3:5], CORNERS[2:])

    def test_far_spots(self):
        things = placed(sketched(FOUR + "; l join a b; m join c d; x meet l m")[0],
                        [(1, 0, 0), (0, 1, 0), (0, 0, 1), (1, 1, 1)])
        self.assertEqual(things[4:], [(0, 0, 1), (-1, 1, 0), (1, 1, 0)])

    def test_stuck_at_joins_and_meets(self):
        self.stuck("a free; b free; l join a b", [CORNERS[0]] * 2, 2)
        self.stuck("a free; l join a a", [CORNERS[0]], 1)
        self.stuck("a free; b free; c free; l join a b; m join a c; x meet l m", CORNERS[:2] + [(2, 0, 1)], 5)

    def test_stuck_at_curves(self):
        text = FIVE + "; q curve a b c d e; l join a a"
        self.stuck(text, CORNERS + [CORNERS[2]], 5)
        self.stuck(text, [(0, 0, 1), (1, 0, 1), (2, 0, 1), (3, 0, 1), (0, 1, 1)], 5)
        self.stuck(text, CORNERS + [(2, 5, 1)], 6)
        self.stuck(FOUR + "; q curve a b c d a", CORNERS, 4)

    def test_stuck_at_abouts_and_poles(self):
        crossed = [(1, 0, 1), (2, 0, 1), (3, 0, 1), (0, 1, 1), (0, 2, 1)]
        knot = "; ab join a b; de join d e; o meet ab de; q curve a b c d e"
        self.stuck(FIVE + knot + "; t about q o", crossed, 9)
        self.stuck(FIVE + knot + "; t about q a; p pole q t", crossed, 10)
        self.stuck(FIVE + knot + "; t pole q ab; p about q o", crossed, 9)

    def test_stuck_at_others(self):
        text = SIX + "; q curve a b c d e; o other q f a"
        self.stuck(text, CORNERS + [(2, 5, 1), (7, 3, 1)], 7)
        text = SIX + "; q curve a b c d e; o other q a f"
        self.stuck(text, CORNERS + [(2, 5, 1), CORNERS[0]], 7)
        crossed = [(1, 0, 1), (2, 0, 1), (3, 0, 1), (0, 1, 1), (0, 2, 1)]
        self.stuck(text, crossed + [(7, 0, 1)], 7)
        self.assertEqual(placed(sketched(text)[0], crossed + [(0, 3, 1)])[7], (0, 3, 1))

    def test_the_first_row_that_cannot_be_done(self):
        text = FOUR + "; l join a b; m join b c; n join c c; x meet l l"
        self.stuck(text, CORNERS, 6)
        self.stuck(text, [CORNERS[0]] * 4, 4)
        self.stuck(text, [CORNERS[0]] + [CORNERS[1]] * 3, 5)

    def test_what_is_handed_in_and_told(self):
        spots = CORNERS + [(2, 5, 1), (7, -3, 2)]
        rows, own = copy.deepcopy(EVERY), list(spots)
        told = placed(rows, own)
        kept = list(told)
        told.clear()
        self.assertEqual((rows, own), (EVERY, spots))
        self.assertEqual(placed(rows, own), kept)

    def test_great_numbers(self):
        n = THREE_HUNDRED
        rows = sketched(FOUR + "; l join a b; m join c d; x meet l m")[0]
        self.assertEqual(placed(rows, [(n, 0, 1), (0, n, 1), (0, 0, 1), (1, 1, 1)])[6], (n, n, 2))


class Kinds(unittest.TestCase):
    def test_fewer_than_four_free_rows(self):
        one, two, three = [sketched("; ".join(FOUR.split("; ")[:many]))[0] for many in (1, 2, 3)]
        for spot in small_rows(1):
            self.assertIs(is_of_kind(one, [spot]), True)
        for spots in itertools.product(small_rows(1), repeat=2):
            self.assertIs(is_of_kind(two, list(spots)), spots[0] != spots[1])
        for spots in itertools.product(small_rows(1), repeat=3):
            self.assertIs(is_of_kind(three, list(spots)), not lie_on_line(*spots))

    def test_four_and_more(self):
        four, six, seven = sketched(FOUR)[0], sketched(SIX)[0], sketched(SEVEN)[0]
        chance = random.Random(36)
        spots = small_rows(1)
        for again in range(400):
            first = [chance.choice(spots) for place in range(4)]
            awaited = not any(lie_on_line(*three) for three in itertools.combinations(first, 3))
            self.assertIs(is_of_kind(four, first), awaited)
            behind = [chance.choice(spots) for place in range(3)]
            self.assertIs(is_of_kind(six, first + behind[:2]), awaited)
            self.assertIs(is_of_kind(seven, first + behind), awaited)

    def test_spots_behind_the_fourth_alike_or_on_a_line(self):
        rows = sketched(SEVEN)[0]
        self.assertIs(is_of_kind(rows, CORNERS + CORNERS[:3]), True)
        self.assertIs(is_of_kind(rows, CORNERS + [CORNERS[0]] * 3), True)
        self.assertIs(is_of_kind(rows, CORNERS + [(5, 5, 1), (6, 6, 1), (1, 1, 0)]), True)
        self.assertIs(is_of_kind(rows, [CORNERS[0], CORNERS[1], (1, 0, 0), CORNERS[3]] + CORNERS[:3]), False)

    def test_other_rows_do_not_count(self):
        rows = [FREE, FREE, ("join", 0, 1), FREE, ("join", 0, 3), FREE]
        self.assertIs(is_of_kind(rows, CORNERS), True)
        self.assertIs(is_of_kind(rows, CORNERS[:3] + [CORNERS[0]]), False)

    def test_standing_placings(self):
        for many in range(1, 5):
            self.assertEqual(standing([FREE] * many, []), CORNERS[:many])
        self.assertEqual(standing([FREE] * 5, [7, 0]), CORNERS + [(7, 0, 1)])
        self.assertEqual(standing([FREE] * 6, [7, 0, -3, 4]), CORNERS + [(7, 0, 1), (-3, 4, 1)])
        self.assertEqual(standing([FREE] * 7, [1, 2, 3, 4, 5, 6]), CORNERS + [(1, 2, 1), (3, 4, 1), (5, 6, 1)])
        self.assertEqual(standing(EVERY, [1, 2, 3, 4]), CORNERS + [(1, 2, 1), (3, 4, 1)])
        self.assertEqual(standing([FREE, FREE, ("join", 0, 1), FREE], []), CORNERS[:3])
        told = standing([FREE] * 4, [])
        told.clear()
        self.assertEqual(standing([FREE] * 4, []), CORNERS)
        self.assertIs(is_of_kind(EVERY, standing(EVERY, [1, 1, 1, 1])), True)


CLAIMS = {
    "same": ["pp", "ll", "qq"], "on": ["pl", "pq"], "row": ["ppp"], "bunch": ["lll"], "touch": ["lq"], "parted": ["q"],
}


class Claims(unittest.TestCase):
    def test_each_word_with_things_of_each_sort(self):
        for word, right in CLAIMS.items():
            for many in range(5):
                for sorts in itertools.product("plq", repeat=many):
                    claim = (word,) + tuple(OF_SORT[sort][-1] for sort in sorts)
                    with self.subTest(claim=claim):
                        self.assertIs(is_claim(BASE, claim), "".join(sorts) in right)
                        self.assertIs(is_claim(BASE, list(claim)), False)

    def test_one_row_many_times(self):
        for claim in [("same", 0, 0), ("row", 1, 1, 1), ("bunch", 5, 5, 5), ("same", 7, 7)]:
            self.assertIs(is_claim(BASE, claim), True)

    def test_numbers_of_no_row(self):
        for claim in [("same", 0, 1), ("on", 0, 5), ("row", 0, 1, 2), ("bunch", 5, 6, 5), ("touch", 5, 7), ("parted", 8)]:
            self.assertIs(is_claim(BASE, claim), True)
            for place in range(1, len(claim)):
                for wrong in FALSE_NUMBERS + [9, 10]:
                    self.assertIs(is_claim(BASE, claim[:place] + (wrong,) + claim[place + 1:]), False)

    def test_any_thing(self):
        for thing in any_things() + ["same", ("same",), (), (None, 0, 1), (["same"], 0, 1), (("same",), 0, 1)]:
            self.assertIs(is_claim(BASE, thing), False, thing)
            self.assertIs(is_claim(BASE, (thing, 0, 1)), thing == "same", thing)

    def check(self, truth, word, *things):
        """Whether the claim holds of the things, told by rows of their sorts."""
        rows = [FREE] * 5 + [("join", 0, 1), ("join", 0, 1), ("join", 0, 1), BASE[7], BASE[7]]
        held = [(0, 0, 1)] * 5 + [(0, 1, 0)] * 3 + [(0, 1, 0, 0, 0, 0)] * 2
        numbers, taken = [], {3: 0, 6: 8}
        lines = {"on": (1,), "bunch": (0, 1, 2), "touch": (0,)}
        for place, thing in enumerate(things):
            if len(thing) == 6:
                number = taken[6]
                taken[6] += 1
            else:
                as_line = place in lines.get(word, ())
                number = 5 + place if as_line else place
            held[number] = thing
            numbers.append(number)
        self.assertTrue(is_claim(rows, (word,) + tuple(numbers)))
        self.assertIs(holds(rows, held, (word,) + tuple(numbers)), truth, (word, things))

    def test_same(self):
        self.check(True, "same", (1, 2, 3), (1, 2, 3))
        self.check(False, "same", (1, 2, 3), (1, 2, 4))
        self.check(True, "same", (1, 2, 3, 4, 5, 6), (1, 2, 3, 4, 5, 6))
        self.check(False, "same", (1, 2, 3, 4, 5, 6), (1, 2, 3, 4, 5, 7))
        rows = BASE[:7]
        held = CORNERS + [(2, 5, 1), (0, 1, 0), (0, 1, 0)]
        self.assertIs(holds(rows, held, ("same", 5, 6)), True)
        self.assertIs(holds(rows, held[:6] + [(1, 0, 0)], ("same", 5, 6)), False)
        self.assertIs(holds(rows, held, ("same", 3, 3)), True)

    def test_on(self):
        for spot in small_rows(1):
            for line in small_rows(1):
                self.check(sum(a * b for a, b in zip(spot, line)) == 0, "on", spot, line)
            for curve in [(-1, 0, -1, 0, 0, 1), (0, 1, 0, 0, 0, 0), (1, 2, 1, 0, 0, 0), (1, 1, 1, 1, 1, 1)]:
                self.check(worth_by_words(curve, spot) == 0, "on", spot, curve)

    def test_row_and_bunch(self):
        for three in itertools.product(small_rows(1)[::2], repeat=3):
            self.check(lie_on_line(*three), "row", *three)
            self.check(lie_on_line(*three), "bunch", *three)

    def test_touch(self):
        circle = (-1, 0, -1, 0, 0, 1)
        for line in small_rows(2):
            self.check(line[0] ** 2 + line[1] ** 2 == line[2] ** 2, "touch", line, circle)
        for line in small_rows(1):
            self.check(line[2] == 0, "touch", line, (0, 1, 0, 0, 0, 0))
            self.check(True, "touch", line, (1, 2, 1, 0, 0, 0))
            spot = spot_about((2, -3, 5, 7, -11, 13), line)
            self.check(sum(a * b for a, b in zip(spot, line)) == 0, "touch", line, (2, -3, 5, 7, -11, 13))

    def test_parted(self):
        self.check(False, "parted", (-1, 0, -1, 0, 0, 1))
        self.check(False, "parted", (1, 0, 1, 0, 0, 1))
        self.check(True, "parted", (0, 1, 0, 0, 0, 0))
        self.check(True, "parted", (1, 2, 1, 0, 0, 0))
        self.check(True, "parted", (1, 0, 1, 0, 0, 0))

    def test_what_is_handed_in_stays(self):
        things = placed(EVERY, CORNERS + [(2, 5, 1), (7, -3, 2)])
        kept = list(things)
        for claim in [("on", every("o"), every("q")), ("touch", every("t"), every("q")), ("same", 0, 1)]:
            holds(EVERY, things, claim)
            self.assertEqual(things, kept)


class CarriedAlong(unittest.TestCase):
    def led(self, by, rows, things):
        told = []
        for k, thing in enumerate(things):
            if sort_of(rows, k) == "spot":
                told.append(mapped(by, thing))
            else:
                told.append(led_line_by(by, thing) if sort_of(rows, k) == "line" else carried(by, thing))
        return told

    def test_things_stuck_rows_and_claims_go_along(self):
        chance = random.Random(38)
        spots = small_rows(2)
        seen = set()
        claims = [("on", every("m"), every("p")), ("row", every("x"), every("m"), every("o")), ("same", 0, every("o")),
                  ("on", every("o"), every("q")), ("touch", every("t"), every("q")), ("parted", every("q")),
                  ("bunch", every("t"), every("ab"), every("xm")), ("touch", every("p"), every("q")),
                  ("on", 5, every("q")), ("row", 0, 1, 5)]
        for by in some_maps(8, seed=39):
            for again in range(60):
                free = [chance.choice(spots[:40]) for place in range(6)]
                there = [mapped(by, spot) for spot in free]
                self.assertIs(is_of_kind(EVERY, there), is_of_kind(EVERY, free))
                try:
                    things = placed(EVERY, free)
                except Stuck as error:
                    with self.assertRaises(Stuck) as taken:
                        placed(EVERY, there)
                    self.assertEqual(taken.exception.at, error.at)
                    seen.add(error.at)
                    continue
                seen.add("done")
                self.assertEqual(placed(EVERY, there), self.led(by, EVERY, things))
                for claim in claims:
                    truth = holds(EVERY, things, claim)
                    self.assertIs(holds(EVERY, placed(EVERY, there), claim), truth)
                    seen.add((claim, truth))
        self.assertIn("done", seen)
        self.assertIn(every("q"), seen)
        self.assertIn(every("x"), seen)
        self.assertIn((claims[-1], True), seen)
        self.assertIn((claims[-1], False), seen)


if __name__ == "__main__":
    unittest.main()
