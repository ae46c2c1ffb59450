"""Throws of four spots of one line (points 11 and 12)."""

from easelroom.choosing import has_alike
from easelroom.errors import Alike, NoThrow, NotOnLine
from easelroom.plain import plain
from easelroom.spots import cross, on_line


def place_off(spots):
    """A place of which the spot (1, 0, 0), (0, 1, 0) or (0, 0, 1) lies off the line of the spots, not all alike."""
    unlike = [spot for spot in spots if spot != spots[0]]
    line = cross(spots[0], unlike[0])
    return [place for place in range(3) if line[place] != 0][0]


def turn_at(one, other, place):
    """The turn of both spots and the spot of the place."""
    # That spot has one 1 and two noughts, so the turn is one number of the cross.
    first = (place + 1) % 3
    second = (place + 2) % 3
    return one[first] * other[second] - one[second] * other[first]


def has_three_alike(four):
    """Whether three of the four spots at least are the same."""
    return max([four.count(spot) for spot in four]) > 2


def throw_numbers(four):
    """The two numbers of which the throw of four spots of one line, no three alike, is made."""
    place = place_off(four)
    return [
        turn_at(four[0], four[2], place) * turn_at(four[1], four[3], place),
        turn_at(four[0], four[3], place) * turn_at(four[1], four[2], place),
    ]


def throw(one, other, third, last):
    """The throw of four spots of one line."""
    four = [one, other, third, last]
    if not on_line(four):
        raise NotOnLine("the four spots do not lie on one line")
    if has_three_alike(four):
        raise NoThrow("three of the four spots are the same")
    return plain(throw_numbers(four))


def fourth(one, other, third, row):
    """The one spot with which three unlike spots of one line have the row as their throw."""
    three = [one, other, third]
    if not on_line(three):
        raise NotOnLine("the three spots do not lie on one line")
    if has_alike(three):
        raise Alike("two of the three spots are the same")
    place = place_off(three)
    of_one = row[0] * turn_at(other, third, place)
    of_other = row[1] * turn_at(one, third, place)
    return plain([of_one * mine - of_other * its for mine, its in zip(one, other)])
