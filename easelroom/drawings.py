"""Drawings: lists of rows, each of which tells a thing by things of rows ahead (point 34)."""

from easelroom.plain import is_whole

MOST_ROWS = 24
MOST_FREE = 7

MADE = {
    "free": "spot",
    "join": "line",
    "meet": "spot",
    "curve": "curve",
    "about": "line",
    "pole": "spot",
    "other": "spot",
}

TAKEN = {
    "free": (),
    "join": ("spot", "spot"),
    "meet": ("line", "line"),
    "curve": ("spot", "spot", "spot", "spot", "spot"),
    "about": ("curve", "spot"),
    "pole": ("curve", "line"),
    "other": ("curve", "spot", "spot"),
}


def begins_with_word(thing, words):
    """Whether any thing is a tuple that begins with one of the words."""
    return isinstance(thing, tuple) and len(thing) > 0 and isinstance(thing[0], str) and thing[0] in words


def are_of_sorts(sorts, numbers, due):
    """Whether any things are numbers of rows, of which the sorts are told, just of the sorts that are due."""
    if len(numbers) != len(due):
        return False
    for number, sort in zip(numbers, due):
        if not is_whole(number) or number < 0 or number >= len(sorts) or sorts[number] != sort:
            return False
    return True


def is_drawing(thing):
    """Whether any thing is a drawing."""
    if not isinstance(thing, list) or len(thing) < 1 or len(thing) > MOST_ROWS:
        return False
    sorts = []
    for row in thing:
        if not begins_with_word(row, list(TAKEN)) or not are_of_sorts(sorts, row[1:], TAKEN[row[0]]):
            return False
        sorts.append(MADE[row[0]])
    return len(free_rows(thing)) <= MOST_FREE


def sort_of(rows, k):
    """The sort of thing that a row tells: spot, line or curve."""
    return MADE[rows[k][0]]


def sorts_of(rows):
    """The sort of each row's thing."""
    return [sort_of(rows, k) for k in range(len(rows))]


def free_rows(rows):
    """The numbers of the free rows."""
    return [k for k in range(len(rows)) if rows[k][0] == "free"]
