"""The room: pictures and drawings kept by names, and rows that ask of them (point 49)."""

from easelroom.claims import holds
from easelroom.curves import through
from easelroom.drawings import free_rows
from easelroom.errors import NoName, NoText, Short
from easelroom.finder import decided
from easelroom.forms import form, led_picture
from easelroom.pictures import apart, map_to
from easelroom.placing import placed
from easelroom.reaching import reached
from easelroom.roads import is_closed
from easelroom.texts import is_name, read_drawing, read_spot, show_number, show_spot


def check_names(words, many):
    """Refuses where there are not just so many words, all of them names."""
    if len(words) != many or not all([is_name(word) for word in words]):
        raise NoText("not the names that are due")


def kept_by(shelf, name):
    """What is kept by the name."""
    if name not in shelf:
        raise NoName("nothing is kept by this name")
    return shelf[name]


def pictures_by(room, words, many):
    """The pictures of just so many names."""
    check_names(words, many)
    return [kept_by(room.pictures, word) for word in words]


def numbers_text(numbers):
    """The numbers with blanks between."""
    return " ".join([show_number(number) for number in numbers])


def spots_text(spots):
    """The spots with blanks between."""
    return " ".join([show_spot(spot) for spot in spots])


def with_numbers_behind(word, numbers):
    """The word, and the numbers, if any, behind it."""
    return " ".join([word] + [show_number(number) for number in numbers])


def say_picture(room, words):
    """Keeps a picture."""
    check_names(words[:1], 1)
    spots = [read_spot(word) for word in words[1:]]
    if len(spots) < 1 or len(spots) > 12:
        raise NoText("a picture has one to twelve spots")
    room.pictures[words[0]] = spots
    return "ok"


def say_drawing(room, words):
    """Keeps a drawing with its claim."""
    check_names(words[:1], 1)
    room.drawings[words[0]] = read_drawing(" ".join(words[1:]))
    return "ok"


def say_show(room, words):
    """The spots of a picture."""
    return spots_text(pictures_by(room, words, 1)[0])


def say_form(room, words):
    """The form of a picture."""
    told = form(pictures_by(room, words, 1)[0])
    return told[0] + " " + spots_text(told[1])


def say_apart(room, words):
    """What tells two pictures apart."""
    pictures = pictures_by(room, words, 2)
    told = apart(pictures[0], pictures[1])
    return "none" if told is None else with_numbers_behind(told[0], told[1])


def say_map(room, words):
    """The map that leads one picture to another one."""
    pictures = pictures_by(room, words, 2)
    return numbers_text(map_to(pictures[0], pictures[1]))


def say_lead(room, words):
    """Keeps a picture led by the map that leads one picture to another one."""
    check_names(words, 4)
    pictures = pictures_by(room, words[:3], 3)
    room.pictures[words[3]] = led_picture(map_to(pictures[1], pictures[2]), pictures[0])
    return "ok"


def first_spots(picture, many):
    """The first so many spots of a picture."""
    if len(picture) < many:
        raise Short("too few spots")
    return picture[:many]


def say_curve(room, words):
    """The curve of a picture's first five spots."""
    return numbers_text(through(first_spots(pictures_by(room, words, 1)[0], 5)))


def say_road(room, words):
    """Whether the road of a picture's first six spots is closed."""
    return "closed" if is_closed(first_spots(pictures_by(room, words, 1)[0], 6)) else "open"


def say_reach(room, words):
    """How many steps reach a spot."""
    if len(words) != 1:
        raise NoText("one spot is due")
    return show_number(len(reached(read_spot(words[0]))))


def say_place(room, words):
    """Whether a drawing's claim holds where it is placed by the spots."""
    check_names(words[:1], 1)
    spots = [read_spot(word) for word in words[1:]]
    if not spots:
        raise NoText("a spot is due at least")
    drawing = kept_by(room.drawings, words[0])
    if len(spots) != len(free_rows(drawing[0])):
        raise Short("not as many spots as free rows")
    return "holds" if holds(drawing[0], placed(drawing[0], spots), drawing[2]) else "fails"


def say_decide(room, words):
    """What is decided of a drawing's claim."""
    check_names(words, 1)
    drawing = kept_by(room.drawings, words[0])
    told = decided(drawing[0], drawing[2])
    if told[0] == "paper":
        return "always"
    if told[0] == "placing":
        return with_numbers_behind("not", told[1])
    return "never " + drawing[1][told[1]]


ANSWERS = {
    "picture": say_picture,
    "drawing": say_drawing,
    "show": say_show,
    "form": say_form,
    "apart": say_apart,
    "map": say_map,
    "lead": say_lead,
    "curve": say_curve,
    "road": say_road,
    "reach": say_reach,
    "place": say_place,
    "decide": say_decide,
}


class Room:
    """A room: it keeps pictures by names, and drawings with their claims by names."""

    def __init__(self):
        self.pictures = {}
        self.drawings = {}

    def say(self, row):
        """The answer to a row."""
        if not isinstance(row, str):
            raise NoText("no text")
        words = row.split(" ")
        if words[0] not in ANSWERS:
            raise NoText("no row that is known here")
        return ANSWERS[words[0]](self, words[1:])
