"""Rising places of a list, and what stands at them."""

from easelroom.spots import on_line


def rising(many, size):
    """All tuples of so many rising places below many, in the order in which tuples are compared."""
    found = [()]
    for taken in range(size):
        longer = []
        for places in found:
            first = places[taken - 1] + 1 if taken > 0 else 0
            longer.extend([places + (place,) for place in range(first, many)])
        found = longer
    return found


def picked(things, places):
    """The things that stand at the places."""
    return [things[place] for place in places]


def has_alike(things):
    """Whether two of the things are the same."""
    return len(set(things)) < len(things)


def has_on_line(spots, size):
    """Whether so many of the spots, at unlike places, lie on one line."""
    return any([on_line(picked(spots, places)) for places in rising(len(spots), size)])
