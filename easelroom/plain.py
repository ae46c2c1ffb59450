"""Plain rows: whole numbers without a common divisor, the last one that is not 0 above 0 (point 4)."""

from easelroom.errors import Nothing


def is_whole(thing):
    """Whether any thing is a whole number; True and False are none."""
    return isinstance(thing, int) and not isinstance(thing, bool)


def divisor_of_two(one, other):
    """The greatest whole number that divides both; 0 where both are 0."""
    one = abs(one)
    other = abs(other)
    while other != 0:
        rest = one % other
        one = other
        other = rest
    return one


def divisor(numbers):
    """The greatest whole number that divides all numbers; 0 of noughts alone and of none."""
    found = 0
    for number in numbers:
        found = divisor_of_two(number, found)
    return found


def ends_below(numbers):
    """Whether the last number that is not 0 is below 0."""
    for number in reversed(numbers):
        if number != 0:
            return number < 0
    return False


def plain(numbers):
    """The one plain row from which the numbers come by one factor."""
    factor = divisor(numbers)
    if factor == 0:
        raise Nothing("no number is other than 0")
    if ends_below(numbers):
        factor = -factor
    return tuple([number // factor for number in numbers])


def is_plain(thing, many):
    """Whether any thing is a plain row of just so many numbers."""
    if not isinstance(thing, tuple) or len(thing) != many:
        return False
    if not all([is_whole(number) for number in thing]):
        return False
    return divisor(thing) == 1 and not ends_below(thing)
