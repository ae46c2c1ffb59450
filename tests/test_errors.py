import unittest

from easelroom import errors

BARE = [
    "Nothing", "Alike", "NoMap", "NotFree", "NotOnLine", "NoThrow", "NoPicture", "NotOnEdge", "NoPart",
    "FourOnLine", "ThreeOnLine", "Knot", "NotRound", "NotOn", "InCurve", "TooMuch", "NoText", "NoName", "Short",
]
WITH_FIELDS = ["Apart", "Stuck", "Tied"]


class Refusals(unittest.TestCase):
    def test_the_root_is_straight_under_value_error(self):
        self.assertEqual(errors.EaselError.__bases__, (ValueError,))

    def test_each_class_is_there_and_straight_under_the_root(self):
        for name in BARE + WITH_FIELDS:
            with self.subTest(name=name):
                found = getattr(errors, name)
                self.assertEqual(found.__name__, name)
                self.assertEqual(found.__bases__, (errors.EaselError,))
                self.assertTrue(issubclass(found, ValueError))

    def test_no_two_names_are_one_class(self):
        found = {getattr(errors, name) for name in BARE + WITH_FIELDS}
        self.assertEqual(len(found), 22)

    def test_bare_ones_are_raised_with_words_and_without(self):
        for name in BARE:
            with self.subTest(name=name):
                found = getattr(errors, name)
                with self.assertRaises(errors.EaselError):
                    raise found("words")
                with self.assertRaises(ValueError):
                    raise found()

    def test_apart_has_word_and_places(self):
        error = errors.Apart("two", (0, 3))
        self.assertEqual(error.word, "two")
        self.assertEqual(error.places, (0, 3))
        self.assertEqual(errors.Apart("many", ()).places, ())

    def test_stuck_and_tied_have_at(self):
        self.assertEqual(errors.Stuck(0).at, 0)
        self.assertEqual(errors.Stuck(17).at, 17)
        self.assertEqual(errors.Tied(5).at, 5)

    def test_fields_are_each_object_s_own(self):
        first = errors.Stuck(1)
        errors.Stuck(2)
        self.assertEqual(first.at, 1)
        self.assertFalse(hasattr(errors.Stuck, "at"))
        self.assertFalse(hasattr(errors.Tied, "at"))
        self.assertFalse(hasattr(errors.Apart, "word"))
        self.assertFalse(hasattr(errors.Apart, "places"))

    def test_those_with_fields_are_taken_with_their_fields(self):
        with self.assertRaises(ValueError) as taken:
            raise errors.Apart("throw", (0, 1, 2, 3))
        self.assertEqual((taken.exception.word, taken.exception.places), ("throw", (0, 1, 2, 3)))
        for name in ("Stuck", "Tied"):
            with self.assertRaises(errors.EaselError) as taken:
                raise getattr(errors, name)(3)
            self.assertEqual(taken.exception.at, 3)


if __name__ == "__main__":
    unittest.main()
