"""Two pictures beside one another: whether they are of one floor (points 16 and 17)."""

from easelroom.choosing import picked, rising
from easelroom.errors import Apart
from easelroom.forms import check_picture, first_free, leading
from easelroom.maps import back, led, map_between, then, tiles
from easelroom.spots import on_line
from easelroom.throws import has_three_alike, throw_numbers


def first_places(one, other, size, differs):
    """The first rising places at which the spots of both differ so; None where there are none."""
    for places in rising(len(one), size):
        if differs(picked(one, places), picked(other, places)):
            return places
    return None


def twos_differ(one, other):
    """Whether two spots are alike in just one of the pictures."""
    return (one[0] == one[1]) != (other[0] == other[1])


def threes_differ(one, other):
    """Whether three spots lie on one line in just one of the pictures."""
    return on_line(one) != on_line(other)


def throws_differ(one, other):
    """Whether four spots of one line, no three alike, have unlike throws."""
    # Twos and threes do not differ here, so what is asked of the one picture holds in the other one too.
    if not on_line(one) or has_three_alike(one):
        return False
    # Without making them plain: of great numbers that takes long, and there are many fours.
    mine = throw_numbers(one)
    its = throw_numbers(other)
    return mine[0] * its[1] != mine[1] * its[0]


def fifth_apart(one, other):
    """The first four free places and the first one led to unlike spots; None where there is none."""
    places = first_free(one)
    if places is None:
        return None
    by = map_between(picked(one, places), tiles())
    other_by = map_between(picked(other, places), tiles())
    for place in range(len(one)):
        if led(by, one[place]) != led(other_by, other[place]):
            return places + (place,)
    return None


def apart_of_as_many(one, other):
    """What tells two pictures with as many spots apart, or None."""
    for word, size, differs in [("two", 2, twos_differ), ("three", 3, threes_differ), ("throw", 4, throws_differ)]:
        places = first_places(one, other, size, differs)
        if places is not None:
            return (word, places)
    places = fifth_apart(one, other)
    return None if places is None else ("five", places)


def apart(one, other):
    """What tells two pictures apart: a word and places; None where they are of one floor."""
    check_picture(one)
    check_picture(other)
    if len(one) != len(other):
        return ("many", ())
    return apart_of_as_many(one, other)


def map_to(one, other):
    """A map that leads the one picture to the other one."""
    found = apart(one, other)
    if found is not None:
        raise Apart(found[0], found[1])
    return then(leading(one), back(leading(other)))
