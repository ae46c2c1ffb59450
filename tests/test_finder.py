import copy
import random
import time
import unittest

from easelroom.checker import lets_by
from easelroom.claims import holds, is_claim
from easelroom.drawings import is_drawing, sort_of
from easelroom.errors import Stuck, Tied, TooMuch
from easelroom.finder import decided
from easelroom.letters import is_sum, letter_sum, minus, number_sum, plus, times
from easelroom.placing import is_of_kind, placed, standing
from easelroom.placings import kept
from easelroom.raws import claim_sums, free_thing, letter_count, raw, tie
from easelroom.worths import height
from samples import FIVE, FOUR, SEVEN, SIX, sketched, small_rows, some_free_fours
from test_letters import by_chance, worth_by_words

CURVE = "; q curve a b c d e"

TRUTHS = {
    "a join has its spots": "a free; b free; l join a b; claim on a l",
    "four spots and a meet": FOUR + "; l join a b; m join c d; x meet l m; claim on x m",
    "two threes of lines through one spot": FIVE + (
        "; ab join a b; ac join a c; ad join a d; be join b e; ce join c e; de join d e; p meet ab ce; r meet ac de"
        "; s meet ad be; bc join b c; cd join c d; bd join b d; pr join p r; rs join r s; ps join p s"
        "; x meet bc pr; y meet cd rs; z meet bd ps; claim row x y z"),
    "two threes of lines, six free spots": SIX + (
        "; ab join a b; ac join a c; ad join a d; be join b e; cf join c f; p meet ab cf; df join d f; r meet ac df"
        "; s meet ad be; bc join b c; cd join c d; bd join b d; pr join p r; rs join r s; ps join p s"
        "; x meet bc pr; y meet cd rs; z meet bd ps; claim row x y z"),
    "two threes of spots on two lines": SIX + (
        "; ab join a b; cd join c d; ef join e f; x meet ab ef; y meet cd ef; ad join a d; bc join b c; ay join a y"
        "; cx join c x; by join b y; dx join d x; p meet ad bc; r meet ay cx; s meet by dx; claim row p r s"),
    "two threes of spots, seven free spots": SEVEN + (
        "; ab join a b; cd join c d; ef join e f; fg join f g; x meet ab ef; y meet cd fg; ad join a d; bc join b c"
        "; ay join a y; cx join c x; by join b y; dx join d x; p meet ad bc; r meet ay cx; s meet by dx"
        "; claim row p r s"),
    "a road of six on a curve": SIX + CURVE + (
        "; o other q b f; s1 join a b; s2 join b c; s3 join c d; s4 join d e; s5 join e o; s6 join o a"
        "; x meet s1 s4; y meet s2 s5; z meet s3 s6; claim row x y z"),
    "the five spots of a curve lie on it": FIVE + CURVE + "; claim on e q",
    "a curve told in another order": FIVE + CURVE + "; r curve d b e a c; claim same q r",
    "a curve of five spots of a curve": SIX + CURVE + "; o other q a f; r curve a b c d o; claim same q r",
    "an other lies on the curve": SIX + CURVE + "; o other q a f; claim on o q",
    "the other of an other": SIX + CURVE + "; o other q a f; p other q o f; claim same p a",
    "the pole of the line about a spot": SIX + CURVE + "; l about q f; x pole q l; claim same x f",
    "the line about the pole of a line": SIX + CURVE + "; l join a f; x pole q l; m about q x; claim same l m",
    "lines about two spots meet at the pole of their join": SEVEN + CURVE + (
        "; l about q f; m about q g; x meet l m; fg join f g; p about q x; claim same p fg"),
    "a spot on the line about another one": SIX + CURVE + (
        "; l about q f; ab join a b; x meet l ab; m about q x; claim on f m"),
    "the line about a spot of the curve touches": FIVE + CURVE + "; t about q e; claim touch t q",
    "four spots of a curve and their three crossings": FIVE + CURVE + (
        "; ab join a b; cd join c d; m meet ab cd; ac join a c; bd join b d; n meet ac bd; ad join a d; bc join b c"
        "; k meet ad bc; nk join n k; l about q m; claim same l nk"),
    "three spots of a line part the curve": FIVE + (
        "; ab join a b; ce join c e; x meet ab ce; r curve a b x c d; claim parted r"),
}

FALSEHOODS = [
    "a free; b free; claim same a b",
    "a free; b free; c free; claim row a b c",
    FOUR + "; ab join a b; cd join c d; ac join a c; claim bunch ab cd ac",
    FIVE + "; ab join a b; claim on e ab",
    FIVE + "; ab join a b; cd join c d; x meet ab cd; claim row x d e",
    FIVE + CURVE + "; claim parted q",
    SIX + CURVE + "; claim on f q",
    SIX + CURVE + "; l about q f; claim touch l q",
    SIX + CURVE + "; r curve a b c d f; claim same q r",
    SIX + CURVE + "; o other q a f; claim same o a",
    SEVEN + "; ef join e f; cd join c d; x meet ef cd; ag join a g; claim on x ag",
    SEVEN + CURVE + "; o other q a f; claim row o f g",
    FIVE + "; ae join a e; be join b e; cd join c d; x meet ae cd; y meet be cd; claim same x y",
]

LINES = "; ab join a b; cd join c d; ae join a e; be join b e; ce join c e; de join d e"
MET = LINES + "; x meet ae cd; y meet be cd; z meet ce ab; w meet de ab; ac join a c; t meet be ac"

# Claims of just the reach that is near still: 24 with two letters, 8 with four, 5 with six.
AT_THE_BOUND = [
    (FIVE + MET + "; q curve b d e x z; l about q a; claim touch l q", "placing"),
    (FIVE + MET + "; q curve b d e x z; l about q b; claim touch l q", "paper"),
    (FIVE + MET + "; q curve d e x z t; claim parted q", "placing"),
    (FIVE + MET + "; q curve d e x y z; claim parted q", "paper"),
    (FIVE + MET + "; bc join b c; xw join x w; v meet xw bc; q curve x y z e v; r curve v z x e y; claim same q r",
     "paper"),
    (FIVE + MET + "; q curve a b d x t; l about q c; p pole q l; claim row p a b", "placing"),
    (FIVE + MET + "; q curve a b d x t; l about q c; p pole q l; claim same p c", "paper"),
    (FIVE + MET + "; q curve d e x z t; o other q x w; p other q z y; claim same o p", "placing"),
    (FIVE + MET + "; q curve d e x z t; l about q a; m about q b; k about q c; claim bunch l m k", "placing"),
    (SIX + "; q curve a b c e f; r curve f c a e b; claim same q r", "paper"),
    (SIX + CURVE + "; t about q b; claim touch t q", "paper"),
    (SIX + "; q curve a b c e f; ef join e f; ad join a d; x meet ef ad; claim on x q", "placing"),
    (SIX + CURVE + "; o other q e f; claim row o e f", "paper"),
    (SIX + CURVE + "; o other q a f; m about q f; ef join e f; claim bunch m m ef", "paper"),
    (SEVEN + "; ae join a e; ef join e f; fg join f g; claim bunch ae ef fg", "placing"),
    (SEVEN + "; r curve a b c e g; l about r f; claim on a l", "placing"),
    (SEVEN + CURVE + "; o other q a f; claim row o a f", "paper"),
    (SEVEN + CURVE + "; l about q f; ab join a b; x meet ab l; t about q x; claim on a t", "placing"),
]


def near_bound(rows):
    return {0: 24, 2: 24, 4: 8, 6: 5}[letter_count(rows)]


def row_reaches(rows):
    """The reaches of the rows, straight from the words of point 46."""
    reaches, free = [], 0
    for row in rows:
        told = [reaches[number] for number in row[1:]]
        if row[0] == "free":
            reaches.append(0 if free < 4 else 1)
            free += 1
        elif row[0] in ("join", "meet", "about"):
            reaches.append(sum(told))
        elif row[0] == "curve":
            reaches.append(2 * sum(told))
        elif row[0] == "pole":
            reaches.append(5 * told[0] + told[1])
        else:
            reaches.append(told[0] + 2 * (told[1] + told[2]))
    return reaches


def claim_reach(rows, claim):
    told = [row_reaches(rows)[number] for number in claim[1:]]
    if claim[0] == "on" and sort_of(rows, claim[2]) == "curve":
        return told[1] + 2 * told[0]
    if claim[0] == "touch":
        return 2 * sum(told)
    return 3 * told[0] if claim[0] == "parted" else sum(told)


def greatest_reach(rows, claim):
    return max(row_reaches(rows) + [claim_reach(rows, claim)])


def plain_paper(rows):
    """The paper of the raws themselves, each with the factor 1."""
    one = number_sum(1, letter_count(rows))
    paper = []
    for k, row in enumerate(rows):
        things = [entry[0] for entry in paper]
        paper.append((free_thing(rows, k) if row[0] == "free" else raw(rows, things, k), one))
    return paper


def some_placings(rows, many, seed=43):
    """Placings of the kind, far spots among them."""
    chance = random.Random(seed)
    free = len([row for row in rows if row[0] == "free"])
    spots = small_rows(3)
    far = [spot for spot in spots if spot[2] == 0]
    for four in some_free_fours(many, seed=seed):
        behind = [chance.choice(far if chance.random() < 0.3 else spots) for place in range(free - 4)]
        yield four[:free] + behind


class Decided(unittest.TestCase):
    def check(self, rows, claim):
        """What is decided, and that it is right."""
        self.assertTrue(is_drawing(rows))
        self.assertTrue(is_claim(rows, claim))
        told = decided(rows, claim)
        self.assertIsInstance(told, tuple)
        self.assertEqual(len(told), 2)
        if told[0] == "paper":
            self.assertIsInstance(told[1], list)
            for thing, factor in told[1]:
                self.assertTrue(is_sum(factor, letter_count(rows)))
                self.assertTrue(all(is_sum(one, letter_count(rows)) for one in thing))
            self.assertIs(lets_by(rows, claim, told[1]), True)
            self.check_holds(rows, claim)
        elif told[0] == "placing":
            self.assertIsInstance(told[1], list)
            self.assertEqual(len(told[1]), letter_count(rows))
            self.assertTrue(all(number >= 0 for number in told[1]))
            self.assertIs(holds(rows, placed(rows, standing(rows, told[1])), claim), False)
        else:
            self.assertEqual(told[0], "never")
            for spots in some_placings(rows, 12):
                with self.assertRaises(Stuck) as taken:
                    placed(rows, spots)
                self.assertLessEqual(taken.exception.at, told[1])
        return told

    def check_holds(self, rows, claim):
        for spots in some_placings(rows, 12):
            self.assertTrue(is_of_kind(rows, spots))
            try:
                things = placed(rows, spots)
            except Stuck:
                continue
            self.assertIs(holds(rows, things, claim), True, (rows, spots))

    def test_known_truths_have_papers(self):
        for name, text in TRUTHS.items():
            with self.subTest(name=name):
                rows, claim = sketched(text)
                self.assertEqual(self.check(rows, claim)[0], "paper")

    def test_falsehoods_have_placings(self):
        for text in FALSEHOODS:
            with self.subTest(text=text):
                rows, claim = sketched(text)
                self.assertEqual(self.check(rows, claim)[0], "placing")

    def test_without_letters(self):
        self.assertEqual(decided(*sketched("a free; b free; claim same a b")), ("placing", []))
        self.assertEqual(decided(*sketched("a free; claim same a a"))[0], "paper")
        self.assertEqual(decided(*sketched("a free; l join a a; claim on a l")), ("never", 1))

    def test_never_with_the_first_row(self):
        for text, at in [
            (FOUR + "; l join a a; m join b b; claim on a l", 4),
            (FIVE + "; l join a e; m join e a; x meet l m; claim on x l", 7),
            (FOUR + "; q curve a b c d a; claim parted q", 4),
            (FIVE + "; l join a b; cd join c d; ce join c e; x meet l ce; r curve a b x c d; ad join a d; p pole r ad"
             "; claim on p ad", 11),
            (FIVE + "; l join a b; cd join c d; ce join c e; x meet l ce; r curve a b x c d; o meet l cd; t about r o"
             "; claim on o t", 11),
            (FIVE + CURVE + "; o other q e e; claim on o q", 6),
            (FIVE + "; ab join a b; ce join c e; x meet ab ce; r curve a b x c d; o other r a b; claim on o r", 9),
        ]:
            with self.subTest(text=text):
                rows, claim = sketched(text)
                self.assertEqual(self.check(rows, claim), ("never", at))

    def test_tied_with_the_first_row(self):
        for text, at in [
            (SIX + CURVE + "; o other q f a; claim on o q", 7),
            (SEVEN + CURVE + "; o other q f g; p other q g f; l join a a; claim on o q", 8),
            (SIX + CURVE + "; p other q a f; o other q f p; claim on o q", 8),
        ]:
            with self.subTest(text=text):
                rows, claim = sketched(text)
                with self.assertRaises(Tied) as taken:
                    decided(rows, claim)
                self.assertEqual(taken.exception.at, at)

    def test_of_several_rows_the_first_decides(self):
        rows, claim = sketched(SIX + CURVE + "; l join a a; o other q f a; claim on o q")
        self.assertEqual(decided(rows, claim), ("never", 7))
        rows, claim = sketched(SIX + CURVE + "; o other q f a; l join a a; claim on o q")
        with self.assertRaises(Tied) as taken:
            decided(rows, claim)
        self.assertEqual(taken.exception.at, 7)

    def test_of_one_row_the_tie_first(self):
        text = FIVE + CURVE + "; t about q b; cd join c d; x meet t cd; o other q x b; claim on o q"
        rows, claim = sketched(text)
        things = [entry[0] for entry in plain_paper(rows[:9])]
        self.assertNotEqual(tie(rows, things, 9), ())
        self.assertFalse(any(raw(rows, things, 9)))
        with self.assertRaises(Tied) as taken:
            decided(rows, claim)
        self.assertEqual(taken.exception.at, 9)

    def test_what_is_handed_in_stays_and_what_is_told_is_the_asker_s_own(self):
        for text in [TRUTHS["the other of an other"], FALSEHOODS[7]]:
            rows, claim = sketched(text)
            own = copy.deepcopy(rows)
            told = decided(own, claim)
            kept_told = copy.deepcopy(told)
            told[1].clear()
            self.assertEqual(own, rows)
            self.assertEqual(decided(own, claim), kept_told)


class Near(unittest.TestCase):
    def decide(self, rows, claim):
        begun = time.monotonic()
        try:
            told = Decided.check(self, rows, claim)[0]
        except Tied:
            told = "tied"
        self.assertLess(time.monotonic() - begun, 60)
        return told

    check_holds = Decided.check_holds

    def test_claims_of_just_the_reach_that_is_near_still(self):
        for text, awaited in AT_THE_BOUND:
            rows, claim = sketched(text)
            with self.subTest(text=text):
                self.assertEqual(greatest_reach(rows, claim), near_bound(rows))
                self.assertEqual(self.decide(rows, claim), awaited)

    def test_drawings_by_chance_at_each_bound(self):
        chance = random.Random(46)
        seen = {}
        at_bound = {5: 0, 6: 0, 7: 0}
        while min(at_bound.values()) < 25:
            free = min(at_bound, key=at_bound.get)
            rows = near_drawing(chance, free)
            claim = near_claim(chance, rows)
            if claim is None or greatest_reach(rows, claim) != near_bound(rows):
                continue
            at_bound[free] += 1
            told = self.decide(rows, claim)
            seen[told] = seen.get(told, 0) + 1
        self.assertGreater(seen["paper"], 3)
        self.assertGreater(seen["placing"], 3)

    def test_not_near_it_may_be_too_much_and_never_wrong(self):
        text = SEVEN + CURVE + ("; ag join a g; gf join g f; af join a f; p pole q ag; r pole q gf; s pole q af"
                                "; fp join f p; ar join a r; gs join g s; claim bunch fp ar gs")
        rows, claim = sketched(text)
        self.assertGreater(greatest_reach(rows, claim), near_bound(rows))
        try:
            self.assertEqual(Decided.check(self, rows, claim)[0], "paper")
        except TooMuch:
            pass


def near_drawing(chance, free):
    """A drawing of joins, meets, curves, abouts, poles and others, with no row beyond the bound."""
    takes = {"join": "ss", "meet": "ll", "curve": "sssss", "about": "cs", "pole": "cl", "other": "css"}
    rows = [("free",)] * free
    many = chance.randint(free + 4, 20)
    for again in range(400):
        if len(rows) == many:
            break
        word = chance.choice(["join", "join", "meet", "meet", "curve", "about", "pole", "other"])
        pools = [[k for k in range(len(rows)) if sort_of(rows, k)[0] == sort] for sort in takes[word]]
        if not all(pools):
            continue
        row = (word,) + tuple(chance.choice(pool) for pool in pools)
        if word == "other":
            row = row[:2] + (chance.choice(rows[row[1]][1:]),) + row[3:]
        if len(set(row)) < len(row) or row in rows or max(row_reaches(rows + [row])) > near_bound(rows):
            continue
        rows = rows + [row]
    return rows


def near_claim(chance, rows):
    """A claim on the rows of the greatest reach; None where there is none of the word drawn."""
    sorts = chance.choice(["same ss", "same ll", "on sl", "on sc", "row sss", "bunch lll", "touch lc", "parted c"])
    word, sorts = sorts.split(" ")
    pools = [[k for k in range(len(rows)) if sort_of(rows, k)[0] == sort] for sort in sorts]
    if not all(pools):
        return None
    return (word,) + tuple(chance.choice(pool) for pool in pools)


class Papers(unittest.TestCase):
    def setUp(self):
        self.rows, self.claim = sketched(TRUTHS["the other of an other"])
        self.paper = plain_paper(self.rows)
        self.letters = letter_count(self.rows)

    def tells(self, truth, paper, rows=None, claim=None):
        own = copy.deepcopy(paper)
        self.assertIs(lets_by(rows or self.rows, claim or self.claim, own), truth)
        self.assertEqual(own, paper)

    def changed(self, k, thing=None, factor=None):
        entry = (self.paper[k][0] if thing is None else thing, self.paper[k][1] if factor is None else factor)
        return self.paper[:k] + [entry] + self.paper[k + 1:]

    def test_the_raws_themselves(self):
        for text in TRUTHS.values():
            rows, claim = sketched(text)
            self.tells(True, plain_paper(rows), rows, claim)
            self.tells(True, decided(rows, claim)[1], rows, claim)

    def test_another_sign_and_a_factor_taken_out(self):
        rows, claim = sketched(FIVE + "; ab join a b; ae join a e; x meet ab ae; claim same x a")
        paper = plain_paper(rows)
        thing = paper[7][0]
        y = letter_sum(1, 2)
        self.assertEqual(thing[2], y if thing[2] == y else minus((), y))
        light = tuple(number_sum(number, 2) for number in (0, 0, 1))
        self.tells(True, paper, rows, claim)
        self.tells(True, paper[:7] + [(light, thing[2])], rows, claim)
        less = tuple(minus((), one) for one in light)
        self.tells(True, paper[:7] + [(less, minus((), thing[2]))], rows, claim)
        self.tells(False, paper[:7] + [(less, thing[2])], rows, claim)
        self.tells(False, paper[:7] + [(light, number_sum(1, 2))], rows, claim)

    def test_too_many_and_too_few_entries(self):
        self.tells(False, [])
        self.tells(False, self.paper[:-1])
        self.tells(False, self.paper + [self.paper[-1]])
        self.tells(False, self.paper[1:])

    def test_too_many_and_too_few_sums(self):
        for k in range(len(self.rows)):
            thing = self.paper[k][0]
            self.tells(False, self.changed(k, thing[:-1]))
            self.tells(False, self.changed(k, thing + ((),)))
            self.tells(False, self.changed(k, thing + thing))
            self.tells(False, self.changed(k, ()))

    def test_free_rows(self):
        one = number_sum(1, self.letters)
        two = number_sum(2, self.letters)
        less = number_sum(-1, self.letters)
        for k in range(6):
            thing = self.paper[k][0]
            self.tells(False, self.changed(k, factor=two))
            self.tells(False, self.changed(k, factor=less))
            self.tells(False, self.changed(k, factor=()))
            self.tells(False, self.changed(k, tuple(times(part, two) for part in thing)))
            self.tells(False, self.changed(k, tuple(times(part, less) for part in thing), less))
            self.tells(False, self.changed(k, (one, one, two)))
        self.tells(False, self.changed(0, self.paper[1][0]))
        self.tells(False, self.changed(4, self.paper[5][0]))

    def test_each_sum_is_the_factor_times_the_thing_s(self):
        for k in range(6, len(self.rows)):
            thing = self.paper[k][0]
            self.tells(False, self.changed(k, factor=number_sum(2, self.letters)))
            self.tells(False, self.changed(k, factor=()))
            for place in range(len(thing)):
                wrong = thing[:place] + (plus(thing[place], number_sum(1, self.letters)),) + thing[place + 1:]
                self.tells(False, self.changed(k, wrong))
                if thing[place]:
                    self.tells(False, self.changed(k, thing[:place] + ((),) + thing[place + 1:]))

    def test_a_raw_that_is_nought(self):
        rows, claim = sketched(FIVE + "; l join e e; claim on e l")
        paper = plain_paper(rows)
        self.assertEqual(paper[5][0], ((), (), ()))
        self.tells(False, paper, rows, claim)
        self.tells(False, paper[:5] + [(free_thing(rows, 0), ())], rows, claim)
        self.tells(False, paper[:5] + [(((), (), ()), ())], rows, claim)

    def test_a_tie_that_is_not_nought(self):
        rows, claim = sketched(SIX + CURVE + "; o other q f a; claim row o f a")
        paper = plain_paper(rows)
        self.assertFalse(any(claim_sums(rows, [entry[0] for entry in paper], claim)))
        self.tells(False, paper, rows, claim)

    def test_a_claim_that_fails(self):
        for text in FALSEHOODS:
            rows, claim = sketched(text)
            self.tells(False, plain_paper(rows), rows, claim)
        for claim in [("same", 0, 1), ("on", 5, 6), ("same", 7, 8), ("parted", 6)]:
            self.tells(False, self.paper, claim=claim)

    def test_just_one_of_several_sums_fails(self):
        rows, claim = sketched(FOUR + "; l join a b; m join c d; claim same l m")
        sums = claim_sums(rows, [entry[0] for entry in plain_paper(rows)], claim)
        self.assertEqual(len([one for one in sums if one]), 1)
        self.tells(False, plain_paper(rows), rows, claim)

    def test_too_much_is_not_let_by(self):
        rows, claim = sketched(SEVEN + CURVE + "; fg join f g; af join a f; x pole q fg; y pole q af; m join x y"
                               "; claim on x m")
        paper = plain_paper(rows[:12])
        with self.assertRaises(TooMuch):
            raw(rows, [entry[0] for entry in paper], 12)
        one = number_sum(1, 6)
        self.tells(False, paper + [((one, one, one), one)], rows, claim)
        wide = tuple(((i, j), 1) for i in range(24) for j in range(25))
        rows, claim = sketched(FIVE + "; l join a b; claim on a l")
        self.tells(False, plain_paper(rows)[:5] + [((wide,) * 3, wide)], rows, claim)
        self.tells(False, plain_paper(rows)[:4] + [((wide,) * 3, wide)] * 2, rows, claim)

    def test_too_much_in_the_claim_alone(self):
        rows, claim = sketched(SEVEN + CURVE + "; af join a f; s pole q af; fg join f g; r pole q fg; claim same r r")
        paper = plain_paper(rows)
        with self.assertRaises(TooMuch):
            claim_sums(rows, [entry[0] for entry in paper], claim)
        self.tells(False, paper, rows, claim)
        self.tells(True, paper, rows, ("on", 0, 7))

    def test_what_is_let_by_holds_far_spots_among_them(self):
        done = 0
        for text in TRUTHS.values():
            rows, claim = sketched(text)
            self.assertTrue(lets_by(rows, claim, plain_paper(rows)))
            for spots in some_placings(rows, 25, seed=44):
                self.assertTrue(is_of_kind(rows, spots))
                try:
                    things = placed(rows, spots)
                except Stuck:
                    continue
                done += 1
                self.assertIs(holds(rows, things, claim), True)
        self.assertGreater(done, 150)


class Kept(unittest.TestCase):
    def check(self, sums, many):
        told = kept(sums, many)
        self.assertIsInstance(told, list)
        self.assertEqual(len(told), many)
        for letter in range(many):
            self.assertGreaterEqual(told[letter], 0)
            self.assertLessEqual(told[letter], sum(height(one, letter) for one in sums))
        for one in sums:
            self.assertNotEqual(worth_by_words(one, told), 0)
        return told

    def test_of_no_sums_and_of_no_letters(self):
        self.assertEqual(self.check([], 0), [])
        self.assertEqual(self.check([], 3), [0, 0, 0])
        self.assertEqual(self.check([number_sum(5, 0), number_sum(-2, 0)], 0), [])

    def test_told_ones(self):
        x, y, one = letter_sum(0, 2), letter_sum(1, 2), number_sum(1, 2)
        self.check([x], 2)
        self.check([x, minus(x, one), minus(x, number_sum(2, 2))], 2)
        self.check([minus(x, y), x, y, minus(y, one), minus(x, one)], 2)
        self.check([times(x, minus(x, one)), times(y, minus(y, x))], 2)

    def test_by_chance(self):
        chance = random.Random(44)
        for again in range(200):
            many = chance.randint(0, 6)
            sums = [one for one in [by_chance(chance, many, 5, 3) for k in range(chance.randint(0, 8))] if one]
            for k in range(len(sums)):
                if many:
                    letter = chance.randrange(many)
                    root = number_sum(chance.randint(0, 4), many)
                    sums[k] = times(sums[k], minus(letter_sum(letter, many), root))
            own = list(sums)
            self.check(own, many)
            self.assertEqual(own, sums)

    def test_as_great_as_it_may_be(self):
        x = letter_sum(0, 1)
        sums = [minus(x, number_sum(k, 1)) for k in range(9)]
        self.assertEqual(self.check(sums, 1), [9])


if __name__ == "__main__":
    unittest.main()
