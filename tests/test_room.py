import unittest

from easelroom.errors import (
    Alike, Apart, EaselError, FourOnLine, NoName, NoText, Short, Stuck, ThreeOnLine, Tied, TooMuch,
)
from easelroom.finder import decided
from easelroom.forms import form
from easelroom.pictures import map_to
from easelroom.reaching import reached
from easelroom.room import Room
from easelroom.texts import read_drawing, read_spot
from samples import FIVE, FOUR, SEVEN, SIX, any_things, mapped
from test_finder import TRUTHS

FREE = "0,0,1 4,1,1 1,3,1 3,3,1"
MOVED = "2,3,1 6,4,1 3,6,1 5,6,1"
LINE = "0,0,1 1,0,1 2,0,1 3,0,1"
CIRCLE = "1,0,1 0,1,1 -1,0,1 3,4,5 -5,12,13"
CURVE = "; q curve a b c d e"


def spots_of(text):
    return [read_spot(word) for word in text.split(" ")]


def filled():
    """A room with some pictures and drawings."""
    room = Room()
    for name, spots in [("free", FREE), ("moved", MOVED), ("line", LINE), ("circle", CIRCLE), ("one", "0,0,1")]:
        assert room.say(f"picture {name} {spots}") == "ok"
    for name, text in [
        ("always", FOUR + "; l join a b; m join c d; x meet l m; claim on x m"),
        ("not", FIVE + "; ab join a b; claim on e ab"),
        ("bare", "a free; b free; claim same a b"),
        ("never", FOUR + "; l join a b; bad join c c; claim on a l"),
        ("tied", SIX + CURVE + "; o other q f a; claim on o q"),
        ("free", "p free; claim same p p"),
    ]:
        assert room.say(f"drawing {name} {text}") == "ok"
    return room


class Asking(unittest.TestCase):
    def setUp(self):
        self.room = filled()

    def answers(self, row, awaited):
        with self.subTest(row=row):
            self.assertEqual(self.room.say(row), awaited)

    def refused(self, row, error):
        with self.subTest(row=row):
            with self.assertRaises(error) as taken:
                self.room.say(row)
            return taken.exception

    def test_show(self):
        self.answers("show free", FREE)
        self.answers("show one", "0,0,1")
        self.answers("show circle", CIRCLE)

    def test_form(self):
        self.answers("form free", "four 1,0,0 0,1,0 0,0,1 1,1,1")
        self.answers("form line", "line 1,0,0 0,1,0 1,1,0 4,3,0")
        self.answers("form one", "few 1,0,0")
        kind, spots = form(spots_of(CIRCLE))
        self.answers("form circle", kind + " " + " ".join(",".join(str(n) for n in spot) for spot in spots))

    def test_apart(self):
        self.answers("apart free moved", "none")
        self.answers("apart free free", "none")
        self.answers("apart free line", "three 0 1 2")
        self.answers("apart free one", "many")
        self.room.say("picture other 0,0,1 1,0,1 2,0,1 4,0,1")
        self.answers("apart line other", "throw 0 1 2 3")
        self.room.say("picture twice 0,0,1 1,0,1 2,0,1 0,0,1")
        self.answers("apart line twice", "two 0 3")
        self.room.say("picture five 0,0,1 4,1,1 1,3,1 3,3,1 7,1,1")
        self.room.say("picture fife 0,0,1 4,1,1 1,3,1 3,3,1 7,5,1")
        self.answers("apart five fife", "five 0 1 2 3 4")

    def test_map(self):
        by = map_to(spots_of(FREE), spots_of(MOVED))
        self.answers("map free moved", " ".join(str(number) for number in by))
        self.assertEqual(by, (1, 0, 2, 0, 1, 3, 0, 0, 1))
        told = [int(word) for word in self.room.say("map line line").split(" ")]
        self.assertEqual([mapped(told, spot) for spot in spots_of(LINE)], spots_of(LINE))
        error = self.refused("map free line", Apart)
        self.assertEqual((error.word, error.places), ("three", (0, 1, 2)))
        error = self.refused("map free one", Apart)
        self.assertEqual((error.word, error.places), ("many", ()))

    def test_lead(self):
        self.answers("lead circle free moved new", "ok")
        by = map_to(spots_of(FREE), spots_of(MOVED))
        awaited = [mapped(by, spot) for spot in spots_of(CIRCLE)]
        self.answers("show new", " ".join(",".join(str(n) for n in spot) for spot in awaited))
        self.answers("apart circle new", "none")
        self.answers("lead free free moved free", "ok")
        self.answers("show free", MOVED)
        self.answers("lead moved line line same", "ok")
        by = map_to(spots_of(LINE), spots_of(LINE))
        awaited = [mapped(by, spot) for spot in spots_of(MOVED)]
        self.answers("show same", " ".join(",".join(str(n) for n in spot) for spot in awaited))

    def test_a_lead_that_is_refused_keeps_what_was_kept(self):
        error = self.refused("lead circle free line free", Apart)
        self.assertEqual((error.word, error.places), ("three", (0, 1, 2)))
        self.answers("show free", FREE)
        self.refused("lead circle free line new", Apart)
        self.refused("show new", NoName)

    def test_curve(self):
        self.answers("curve circle", "-1 0 -1 0 0 1")
        self.room.say(f"picture six {CIRCLE} 7,7,1")
        self.answers("curve six", "-1 0 -1 0 0 1")
        self.refused("curve free", Short)
        self.refused("curve one", Short)
        self.room.say("picture twice 0,0,1 1,0,1 2,0,1 3,0,1 0,0,1")
        self.refused("curve twice", Alike)
        self.room.say("picture flat 0,0,1 1,0,1 2,0,1 3,0,1 0,1,1")
        self.refused("curve flat", FourOnLine)

    def test_road(self):
        self.room.say(f"picture closed {CIRCLE} 5,12,13")
        self.answers("road closed", "closed")
        self.room.say(f"picture open {CIRCLE} 7,7,1 5,12,13")
        self.answers("road open", "open")
        self.refused("road circle", Short)
        self.room.say("picture flat 0,0,1 1,0,1 2,0,1 3,4,1 0,1,1 0,0,1")
        self.refused("road flat", ThreeOnLine)
        self.room.say(f"picture alike {CIRCLE} 1,0,1")
        self.refused("road alike", Alike)

    def test_reach(self):
        for text in ["0,0,1", "3,-4,7", "1,0,0", "9" * 60 + ",-1,7"]:
            self.answers(f"reach {text}", str(len(reached(read_spot(text)))))

    def test_place(self):
        self.answers("place always 0,0,1 1,0,1 0,1,1 1,1,1", "holds")
        self.answers("place always 1,0,0 0,1,0 0,0,1 1,1,1", "holds")
        self.answers("place not 0,0,1 1,0,1 0,1,1 1,1,1 7,0,1", "holds")
        self.answers("place not 0,0,1 1,0,1 0,1,1 1,1,1 7,1,1", "fails")
        self.answers("place free 5,6,7", "holds")
        self.refused("place always 0,0,1 1,0,1 0,1,1", Short)
        self.refused("place always 0,0,1 1,0,1 0,1,1 1,1,1 2,2,1", Short)
        self.refused("place always " + " ".join(["0,0,1"] * 30), Short)
        self.assertEqual(self.refused("place always 0,0,1 0,0,1 0,1,1 1,1,1", Stuck).at, 4)
        self.assertEqual(self.refused("place never 0,0,1 1,0,1 0,1,1 1,1,1", Stuck).at, 5)
        self.assertEqual(self.refused("place tied 0,0,1 1,0,1 0,1,1 1,1,1 2,5,1 7,3,1", Stuck).at, 7)

    def test_decide(self):
        self.answers("decide always", "always")
        self.answers("decide free", "always")
        self.answers("decide bare", "not")
        self.answers("decide never", "never bad")
        rows, names, claim = read_drawing(FIVE + "; ab join a b; claim on e ab")
        word, numbers = decided(rows, claim)
        self.assertEqual(word, "placing")
        self.answers("decide not", "not " + " ".join(str(number) for number in numbers))
        self.assertEqual(self.refused("decide tied", Tied).at, 7)
        for k, text in enumerate(TRUTHS.values()):
            self.room.say(f"drawing t{k} {text}")
            self.answers(f"decide t{k}", "always")

    def test_decide_too_much(self):
        text = SEVEN + CURVE + ("; ag join a g; gf join g f; af join a f; p pole q ag; r pole q gf; s pole q af"
                                "; fp join f p; ar join a r; gs join g s; claim bunch fp ar gs")
        self.room.say(f"drawing much {text}")
        try:
            self.assertEqual(self.room.say("decide much"), "always")
        except TooMuch:
            pass


class Refusals(unittest.TestCase):
    def setUp(self):
        self.room = filled()

    def refused(self, row, error):
        with self.subTest(row=row):
            with self.assertRaises(EaselError) as taken:
                self.room.say(row)
            self.assertIs(taken.exception.__class__, error)

    def test_rows_that_are_none(self):
        for row in [
            "", " ", "show", "show ", " show free", "show free ", "show  free", "show free line", "Show free", "shows free",
            "form", "form free line", "apart free", "apart free line one", "map free", "map free moved line", "map",
            "lead free line", "lead circle free moved", "lead circle free moved new more", "curve", "curve free one",
            "road", "road free one", "reach", "reach ", "reach 0,0,1 0,0,1", "reach free", "decide", "decide a b",
            "place", "place always", "place always ", "picture", "picture a", "picture a ", "drawing", "drawing a",
            "drawing a ", "hello", "free", "picture\na 0,0,1", "show free\n", "\nshow free", "show\tfree", "ok", "none",
        ]:
            self.refused(row, NoText)

    def test_names_that_are_none(self):
        for name in ["A", "1", "aB", "abcdefghi", "a_b", "a-b", "0,0,1", "a;", "a,b", "~"]:
            for row in [f"show {name}", f"form {name}", f"apart {name} free", f"apart free {name}", f"map {name} free",
                        f"map free {name}", f"lead {name} free free new", f"lead free {name} free new",
                        f"lead free free {name} new", f"lead free free free {name}", f"curve {name}", f"road {name}",
                        f"decide {name}", f"place {name} 0,0,1", f"picture {name} 0,0,1",
                        f"drawing {name} p free; claim same p p"]:
                self.refused(row, NoText)

    def test_spots_that_are_none(self):
        for spot in ["", "0,0", "0,0,2", "0,0,-1", "0,0,0", "x", "01,0,1", "1" * 61 + ",0,1", "+1,0,1", "0,0,1,"]:
            self.refused(f"picture a {spot}", NoText)
            self.refused(f"picture a 0,0,1 {spot}", NoText)
            self.refused(f"picture a {spot} 0,0,1", NoText)
            self.refused(f"reach {spot}", NoText)
            self.refused(f"place always {spot}", NoText)
            self.refused(f"place free 0,0,1 {spot}", NoText)

    def test_how_many_spots_of_a_picture(self):
        self.assertEqual(self.room.say("picture a " + " ".join(["0,0,1"] * 12)), "ok")
        self.refused("picture a " + " ".join(["1,0,1"] * 13), NoText)
        self.assertEqual(self.room.say("show a"), " ".join(["0,0,1"] * 12))

    def test_drawings_that_are_none(self):
        for text in ["p free", "claim same p p", "p free;claim same p p", "p free; claim same p q", " p free; claim same p p",
                     "p free; claim same p p ", "p free; p free; claim same p p", "p  free; claim same p p"]:
            self.refused(f"drawing a {text}", NoText)
        self.refused("decide a", NoName)

    def test_what_is_no_text(self):
        for thing in any_things():
            self.refused(thing, NoText)
        for thing in [["show free"], ("show free",), ["show", "free"], None, True]:
            self.refused(thing, NoText)

    def test_names_by_which_no_such_thing_is_kept(self):
        for row in ["show nil", "form nil", "apart nil free", "apart free nil", "map nil free", "map free nil",
                    "lead nil free moved new", "lead free nil moved new", "lead free free nil new", "curve nil",
                    "road nil", "decide nil", "place nil 0,0,1"]:
            self.refused(row, NoName)
        for row in ["show always", "form not", "apart bare free", "map free never", "curve tied", "road tied",
                    "lead always free free new"]:
            self.refused(row, NoName)
        for row in ["decide line", "decide moved", "place circle 0,0,1"]:
            self.refused(row, NoName)

    def test_the_order_of_the_refusals(self):
        self.refused("apart nil B", NoText)
        self.refused("map nil line B", NoText)
        self.refused("lead nil free line B", NoText)
        self.refused("lead nil free line new", NoName)
        self.refused("lead circle free line new", Apart)
        self.refused("place nil 0,0,2", NoText)
        self.refused("place nil", NoText)
        self.refused("place nil 0,0,1", NoName)
        self.refused("place always 0,0,1", Short)
        self.refused("place never 0,0,1 0,0,1", Short)
        self.refused("place always 0,0,1 0,0,1 0,0,1 0,0,1", Stuck)
        self.room.say("picture alike 0,0,1 0,0,1 0,0,1 0,0,1")
        self.refused("curve alike", Short)
        self.refused("road alike", Short)
        self.room.say("picture alike 0,0,1 0,0,1 1,0,1 2,0,1 3,0,1")
        self.refused("curve alike", Alike)
        self.refused("road alike", Short)
        self.room.say("picture alike 0,0,1 0,0,1 1,0,1 2,0,1 3,0,1 0,0,1")
        self.refused("road alike", ThreeOnLine)

    def test_refused_the_room_keeps_what_it_kept(self):
        for row in ["picture free 0,0,2", "picture free", "picture free " + "0,0,1 " * 12 + "0,0,1", "drawing free p free",
                    "lead one free line free", "lead one nil free free", "picture free 0,0,1 ", "drawing not p"]:
            with self.assertRaises(EaselError):
                self.room.say(row)
        self.assertEqual(self.room.say("show free"), FREE)
        self.assertEqual(self.room.say("decide free"), "always")
        self.assertTrue(self.room.say("decide not").startswith("not "))


class Keeping(unittest.TestCase):
    def test_a_picture_and_a_drawing_by_one_name(self):
        room = Room()
        room.say("picture a 5,6,1")
        room.say("drawing a p free; q free; claim same p q")
        self.assertEqual(room.say("show a"), "5,6,1")
        self.assertEqual(room.say("decide a"), "not")
        room.say("picture a 7,8,1")
        self.assertEqual(room.say("show a"), "7,8,1")
        self.assertEqual(room.say("decide a"), "not")
        room.say("drawing a p free; claim same p p")
        self.assertEqual(room.say("show a"), "7,8,1")
        self.assertEqual(room.say("decide a"), "always")

    def test_two_rooms(self):
        one, other = Room(), Room()
        one.say("picture a 5,6,1")
        one.say("drawing a p free; claim same p p")
        with self.assertRaises(NoName):
            other.say("show a")
        with self.assertRaises(NoName):
            other.say("decide a")
        other.say("picture a 7,8,1")
        self.assertEqual(one.say("show a"), "5,6,1")

    def test_names_like_words(self):
        room = Room()
        for name in ["picture", "show", "claim", "a1234567", "none"]:
            room.say(f"picture {name} 5,6,1")
            self.assertEqual(room.say(f"show {name}"), "5,6,1")
            room.say(f"drawing {name} claim free; claim same claim claim")
            self.assertEqual(room.say(f"decide {name}"), "always")

    def test_leading_again_and_again(self):
        room = Room()
        figures = "1" + "0" * 58 + "7"
        room.say(f"picture a {figures},0,1 0,{figures},1 1,1,{figures} 1,0,1 -{figures},3,1")
        room.say(f"picture b 0,0,1 {figures},1,3 0,1,1 1,1,1")
        room.say(f"picture c 2,3,1 0,1,{figures} 4,9,1 1,0,0")
        room.say("lead a b c d")
        room.say("lead d b c d")
        room.say("lead d b c e")
        self.assertEqual(room.say("apart a e"), "none")
        self.assertEqual(len(room.say("map a e").split(" ")), 9)


if __name__ == "__main__":
    unittest.main()
