"""Kinds and forms of pictures (points 13 to 15)."""

from easelroom.choosing import picked, rising
from easelroom.errors import NoPicture
from easelroom.maps import are_free, led, map_between, tiles
from easelroom.plain import plain
from easelroom.spots import join, lies_on, on_line


def check_picture(picture):
    """Refuses a list of no spots, or of more than twelve."""
    if len(picture) < 1 or len(picture) > 12:
        raise NoPicture("a picture has one to twelve spots")


def first_free(picture):
    """The first four free places; None where no four spots are free."""
    for places in rising(len(picture), 4):
        if are_free(picked(picture, places)):
            return places
    return None


def unlike_spots(picture):
    """The unlike spots, as they first stand."""
    found = []
    for spot in picture:
        if spot not in found:
            found.append(spot)
    return found


def line_of_three(unlike):
    """The line of three of the unlike spots; None where no three lie on one line."""
    for places in rising(len(unlike), 3):
        three = picked(unlike, places)
        if on_line(three):
            return join(three[0], three[1])
    return None


def kind_of(picture):
    """The kind of the picture: four, line or few."""
    check_picture(picture)
    if first_free(picture) is not None:
        return "four"
    if line_of_three(unlike_spots(picture)) is not None:
        return "line"
    return "few"


def units():
    """The first three tiles: no line has all of them."""
    return tiles()[:3]


def spot_between(spots):
    """The spot of the numbers of the spots together, which no fewer of them have on their line or at their place."""
    return plain([sum([spot[place] for spot in spots]) for place in range(3)])


def leading_of_line(unlike, line):
    """A map for unlike spots that lie on the line but perhaps one."""
    on = [spot for spot in unlike if lies_on(spot, line)]
    off = [spot for spot in unlike + units() if not lies_on(spot, line)]
    # The last tile lies on the join of (0, 0, 1) and (1, 1, 0): so the third spot of the line goes to (1, 1, 0).
    return map_between([on[0], on[1], off[0], spot_between([off[0], on[2]])], tiles())


def filled_up(unlike):
    """The unlike spots, three at most and not on one line, and units behind them: three not on one line."""
    three = list(unlike)
    for unit in units():
        if len(three) == 1 and unit != three[0]:
            three.append(unit)
        elif len(three) == 2 and not on_line(three + [unit]):
            three.append(unit)
    return three


def leading_of_few(unlike):
    """A map for three unlike spots at most, not on one line."""
    three = filled_up(unlike)
    return map_between(three + [spot_between(three)], tiles())


def leading(picture):
    """A map that leads the picture to its form."""
    check_picture(picture)
    places = first_free(picture)
    if places is not None:
        return map_between(picked(picture, places), tiles())
    unlike = unlike_spots(picture)
    line = line_of_three(unlike)
    if line is not None:
        return leading_of_line(unlike, line)
    return leading_of_few(unlike)


def led_picture(by, picture):
    """The spots to which the map leads those of the picture."""
    return [led(by, spot) for spot in picture]


def form(picture):
    """The form of the picture: its kind, and for each place the spot to which a leading map leads."""
    return (kind_of(picture), led_picture(leading(picture), picture))
