"""The refusals of the program: one class for each, all straight under EaselError."""


class EaselError(ValueError):
    """Any refusal."""


class Nothing(EaselError):
    """Of noughts alone, or of no numbers, no plain row is made."""


class Alike(EaselError):
    """Two things that must be unlike are the same."""


class NoMap(EaselError):
    """Nine numbers whose size is 0 are no map."""


class NotFree(EaselError):
    """Three of four spots lie on one line."""


class NotOnLine(EaselError):
    """Spots that must lie on one line do not."""


class NoThrow(EaselError):
    """Three of four spots at least are the same: they have no throw."""


class NoPicture(EaselError):
    """A list of no spots, or of more than twelve, is no picture."""


class Apart(EaselError):
    """No map leads one picture to another one; the word and the places say what tells them apart."""

    def __init__(self, word, places):
        self.word = word
        self.places = places


class Stuck(EaselError):
    """A step or a row can't be done; at is how many steps were done ahead, or the row's number."""

    def __init__(self, at):
        self.at = at


class NotOnEdge(EaselError):
    """A number tells no near spot on the edge."""


class NoPart(EaselError):
    """Nothing is parted by nought."""


class FourOnLine(EaselError):
    """Four of five spots lie on one line."""


class ThreeOnLine(EaselError):
    """Three of five spots lie on one line."""


class Knot(EaselError):
    """A spot has no line about a curve."""


class NotRound(EaselError):
    """A curve that must be round is not."""


class NotOn(EaselError):
    """A spot does not lie where it must."""


class InCurve(EaselError):
    """All spots of a line lie on the curve."""


class TooMuch(EaselError):
    """A letter sum would go beyond its bounds."""


class Tied(EaselError):
    """A drawing has an other whose tie is not nought; at is the row's number."""

    def __init__(self, at):
        self.at = at


class NoText(EaselError):
    """A text is not written as it must be, or is no text."""


class NoName(EaselError):
    """Nothing is kept by this name."""


class Short(EaselError):
    """There are too few spots, or not as many as are due."""
