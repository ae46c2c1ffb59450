import copy
import itertools
import random
import unittest

from easelroom.claims import is_claim
from easelroom.drawings import is_drawing
from easelroom.errors import NoText
from easelroom.texts import read_drawing, read_spot, show_drawing, show_spot
from samples import ALL_WORDS, EVERY, EVERY_NAMES, SEVEN, THREE_HUNDRED, any_things, every, small_rows
from test_finder import FALSEHOODS, TRUTHS

SIXTY = 10 ** 60 - 1


class Spots(unittest.TestCase):
    def refused(self, text):
        with self.subTest(text=text):
            with self.assertRaises(NoText):
                read_spot(text)

    def test_written(self):
        self.assertEqual(show_spot((3, -4, 1)), "3,-4,1")
        self.assertEqual(show_spot((0, 0, 1)), "0,0,1")
        self.assertEqual(show_spot((-10, 1, 0)), "-10,1,0")
        self.assertEqual(show_spot((-SIXTY, 100, 7)), "-" + "9" * 60 + ",100,7")

    def test_there_and_back(self):
        for spot in small_rows(4) + [(SIXTY, -SIXTY, 1), (10 ** 59, 1, SIXTY)]:
            self.assertEqual(show_spot(spot), ",".join(str(number) for number in spot))
            self.assertEqual(read_spot(show_spot(spot)), spot)
            self.assertEqual(show_spot(read_spot(show_spot(spot))), show_spot(spot))

    def test_great_numbers_are_written(self):
        self.assertEqual(show_spot((THREE_HUNDRED, 0, 1)), "1" + "0" * 298 + "7,0,1")
        self.assertEqual(show_spot((-10 ** 2999, 10 ** 64, 10 ** 64 - 1)),
                         "-1" + "0" * 2999 + ",1" + "0" * 64 + "," + "9" * 64)
        self.assertEqual(show_spot((10 ** 9000 + 5, 0, 1)), "1" + "0" * 8999 + "5,0,1")

    def test_sixty_figures_and_sixty_one(self):
        self.assertEqual(read_spot("-" + "9" * 60 + ",0,1"), (-SIXTY, 0, 1))
        for place in range(3):
            for ahead in ("", "-"):
                words = ["1", "1", "1"]
                words[place] = ahead + "1" + "0" * 60
                self.refused(",".join(words))

    def test_not_so_written(self):
        for text in [
            "", ",", ",,", "0,0", "0,0,1,1", "0,0,1,", ",0,0,1", "0,,1", "0 0 1", "0, 0,1", " 0,0,1", "0,0,1 ", "0;0;1",
            "+1,0,1", "-0,0,1", "0,-0,1", "00,0,1", "01,0,1", "-01,0,1", "0,0,01", "--1,0,1", "-,0,1", "1-,0,1",
            "a,0,1", "0x1,0,1", "1_0,0,1", "1.0,0,1", "1e3,0,1", "(0,0,1)", "0,0,1\n", "\n0,0,1", "0,\n0,1", "0,0,1;",
            "0,0,True", "None,0,1", "0.,0,1", "1,2,3,", "1 ,0,1",
        ]:
            self.refused(text)

    def test_not_plain(self):
        for text in ["0,0,0", "0,0,2", "2,4,6", "0,0,-1", "1,0,-1", "1,-1,0", "-1,0,0", "3,0,0"]:
            self.refused(text)
        for three in itertools.product(range(-2, 3), repeat=3):
            text = ",".join(str(number) for number in three)
            if three in small_rows(2):
                self.assertEqual(read_spot(text), three)
            else:
                self.refused(text)

    def test_any_thing(self):
        for thing in any_things():
            if thing != "0,0,1":
                self.refused(thing)
        for thing in [(0, 0, 1), [0, 0, 1], ("0", "0", "1"), ["0,0,1"], ("0,0,1",), None, True, 1]:
            self.refused(thing)


class Drawings(unittest.TestCase):
    def refused(self, text):
        with self.subTest(text=text):
            with self.assertRaises(NoText):
                read_drawing(text)

    def test_written(self):
        rows = [("free",), ("free",), ("join", 0, 1)]
        self.assertEqual(show_drawing(rows, ["p", "q", "l"], ("on", 0, 2)), "p free; q free; l join p q; claim on p l")
        self.assertEqual(show_drawing([("free",)], ["claim"], ("same", 0, 0)), "claim free; claim same claim claim")
        text = show_drawing(EVERY, EVERY_NAMES, ("touch", every("t"), every("q")))
        self.assertEqual(text, ALL_WORDS + "; claim touch t q")

    def test_there_and_back(self):
        for text in list(TRUTHS.values()) + FALSEHOODS + [ALL_WORDS + "; claim touch t q"]:
            told = read_drawing(text)
            self.assertIsInstance(told, tuple)
            rows, names, claim = told
            self.assertIsInstance(rows, list)
            self.assertIsInstance(names, list)
            self.assertTrue(is_drawing(rows))
            self.assertTrue(is_claim(rows, claim))
            self.assertEqual(show_drawing(rows, names, claim), text)
            self.assertEqual(read_drawing(show_drawing(rows, names, claim)), told)

    def test_read(self):
        told = read_drawing("p free; q free; l join q p; claim on p l")
        self.assertEqual(told, ([("free",), ("free",), ("join", 1, 0)], ["p", "q", "l"], ("on", 0, 2)))
        rows, names, claim = read_drawing(ALL_WORDS + "; claim touch t q")
        self.assertEqual((rows, names, claim), (EVERY, EVERY_NAMES, ("touch", every("t"), every("q"))))

    def test_names(self):
        for name in ["a", "z", "a1", "abcdefgh", "a1234567", "free", "join", "claim", "same", "z9"]:
            rows, names, claim = read_drawing(f"{name} free; claim same {name} {name}")
            self.assertEqual((rows, names, claim), ([("free",)], [name], ("same", 0, 0)))
        for name in ["", "A", "1", "1a", "aB", "abcdefghi", "a12345678", "a_b", "a-b", "a.b", "a,b", "-a", "a;", "_a",
                     "a\n", "\na", "~", "a b"]:
            self.refused(f"{name} free; claim same {name} {name}")

    def test_a_row_named_claim(self):
        told = read_drawing("claim free; q free; l join claim q; claim on claim l")
        self.assertEqual(told, ([("free",), ("free",), ("join", 0, 1)], ["claim", "q", "l"], ("on", 0, 2)))
        told = read_drawing("q free; claim free; claim same claim q")
        self.assertEqual(told, ([("free",), ("free",)], ["q", "claim"], ("same", 1, 0)))
        self.refused("q free; claim free")
        self.refused("claim free")
        self.refused("claim free; claim free; claim same claim claim")

    def test_not_so_written(self):
        right = "p free; q free; l join p q; claim on p l"
        self.assertEqual(len(read_drawing(right)[0]), 3)
        for text in [
            "", " ", ";", "; ", "claim", "claim ", "p free", "p free;", "p free; ", "p free; q free; l join p q",
            "p free; q free; l join p q; claim on p l;", "p free; q free; l join p q; claim on p l; ",
            "p free; q free; l join p q; claim on p l ", " p free; q free; l join p q; claim on p l",
            "p free;q free; l join p q; claim on p l", "p free ; q free; l join p q; claim on p l",
            "p free;  q free; l join p q; claim on p l", "p  free; q free; l join p q; claim on p l",
            "p free; q free; l join  p q; claim on p l", "p free; q free; l join p q ; claim on p l",
            "p free; q free; l join p q; claim  on p l", "p free; q free; l join p q; claim on p  l",
            "p free; q free; l join p q; on p l", "p free; q free; l join p q; Claim on p l",
            "claim on p l; p free; q free; l join p q", "p free; q free; l join p q; claim on p l; claim on p l",
            "p free\nq free\nl join p q\nclaim on p l", "p free; q free; l join p q; claim on p l\n",
            "\np free; q free; l join p q; claim on p l", "p free, q free, l join p q, claim on p l",
            "p; q free; claim same q q", "p free; q; claim same p p", "p free;; q free; claim same p q",
            "p free; ; q free; claim same p q", "p Free; claim same p p", "p free; q free; l Join p q; claim on p l",
        ]:
            self.refused(text)

    def test_names_told_twice(self):
        self.refused("p free; p free; claim same p p")
        self.refused("p free; q free; p join p q; claim on q p")

    def test_names_of_no_row_ahead(self):
        self.refused("p free; l join p q; q free; claim on p l")
        self.refused("p free; l join p l; claim on p l")
        self.refused("p free; q free; l join p r; claim on p l")
        self.refused("p free; q free; claim same p r")
        self.refused("p free; q free; l join 0 1; claim on p l")
        self.refused("p free; q free; claim same 0 1")

    def test_names_of_the_wrong_kind(self):
        self.refused("p free; q free; l join p q; m join p l; claim on p l")
        self.refused("p free; q free; l join p q; x meet p l; claim on p l")
        self.refused("p free; q free; l join p q; claim on l p")
        self.refused("p free; q free; l join p q; claim row p q l")
        self.refused("p free; q free; l join p q; claim same p l")
        self.refused("p free; claim parted p")

    def test_what_is_no_drawing_or_no_claim(self):
        self.refused("claim same p p")
        self.refused("p free; q free p; claim same p q")
        self.refused("p free; q free; l join p; claim on p l")
        self.refused("p free; q free; l join p q p; claim on p l")
        self.refused("p free; q spot; claim same p q")
        self.refused(SEVEN + "; h free; claim same a b")
        self.refused("p free; q free; claim same p")
        self.refused("p free; q free; claim same p q p")
        self.refused("p free; q free; claim like p q")
        self.refused("p free; q free; claim")
        many = "p free; q free" + "".join(f"; l{k} join p q" for k in range(22))
        self.assertEqual(len(read_drawing(many + "; claim on p l0")[0]), 24)
        self.refused(many + "; l22 join p q; claim on p l0")

    def test_one_sign_changed(self):
        chance = random.Random(48)
        signs = [chr(code) for code in range(32, 127)] + ["\n"]
        right = ALL_WORDS + "; claim touch t q"
        for again in range(1500):
            place = chance.randrange(len(right))
            text = right[:place] + chance.choice(signs) + right[place + chance.randint(0, 1):]
            try:
                rows, names, claim = read_drawing(text)
            except NoText:
                continue
            self.assertEqual(show_drawing(rows, names, claim), text)

    def test_any_thing(self):
        for thing in any_things():
            if thing != "p free; claim same p p":
                self.refused(thing)
        for thing in [["p free; claim same p p"], ("p free", "claim same p p"), EVERY, None, False]:
            self.refused(thing)

    def test_long_texts(self):
        self.refused("p free; " * 300 + "claim same p p")
        self.refused("a" * 3000)
        self.refused("; " * 1500)

    def test_what_is_handed_in_stays_and_what_is_told_is_the_asker_s_own(self):
        rows, names = copy.deepcopy(EVERY), list(EVERY_NAMES)
        text = show_drawing(rows, names, ("same", 0, 1))
        self.assertEqual((rows, names), (EVERY, EVERY_NAMES))
        told = read_drawing(text)
        told[0].clear()
        told[1].clear()
        self.assertEqual(read_drawing(text), (EVERY, EVERY_NAMES, ("same", 0, 1)))


if __name__ == "__main__":
    unittest.main()
