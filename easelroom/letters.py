"""Letter sums: tuples of terms (powers, number), in rising order of powers (points 29 to 31)."""

from easelroom.errors import NoPart, TooMuch
from easelroom.plain import is_whole

MOST_TERMS = 600
MOST_POWER = 60
MOST_PAIRS = 20000

# Powers are packed into one number for quick work. What is left while a sum is parted by another one has powers
# of at most 60 more for each of at most 600 terms, which is below this.
FIELD = 65536


def is_powers(thing, letters):
    """Whether any thing is a tuple of a power for each letter."""
    if not isinstance(thing, tuple) or len(thing) != letters:
        return False
    return all([is_whole(power) and 0 <= power <= MOST_POWER for power in thing])


def is_term(thing, letters):
    """Whether any thing is a term."""
    if not isinstance(thing, tuple) or len(thing) != 2:
        return False
    return is_powers(thing[0], letters) and is_whole(thing[1]) and thing[1] != 0


def is_sum(thing, letters):
    """Whether any thing is a letter sum of so many letters."""
    if not isinstance(thing, tuple) or len(thing) > MOST_TERMS:
        return False
    if not all([is_term(term, letters) for term in thing]):
        return False
    return all([thing[k - 1][0] < thing[k][0] for k in range(1, len(thing))])


def number_sum(number, letters):
    """The letter sum that is a whole number."""
    return (((0,) * letters, number),) if number != 0 else ()


def letter_sum(letter, letters):
    """The letter sum that is one letter by itself."""
    return ((tuple([1 if place == letter else 0 for place in range(letters)]), 1),)


def sum_of_totals(totals):
    """The letter sum of a dict with a number, perhaps 0, for each of some powers."""
    terms = tuple([(powers, totals[powers]) for powers in sorted(totals) if totals[powers] != 0])
    if len(terms) > MOST_TERMS:
        raise TooMuch("too many terms")
    return terms


def with_times(one, other, factor):
    """The one letter sum and the other one times the factor."""
    totals = dict(one)
    for powers, number in other:
        totals[powers] = totals.get(powers, 0) + factor * number
    return sum_of_totals(totals)


def plus(one, other):
    """The sum of two letter sums."""
    return with_times(one, other, 1)


def minus(one, other):
    """The one letter sum less the other one."""
    return with_times(one, other, -1)


def packed(powers):
    """The powers as one number; greater powers, as tuples are compared, give a greater one."""
    key = 0
    for power in powers:
        key = key * FIELD + power
    return key


def unpacked(key, letters):
    """The powers of a packed number."""
    powers = []
    for taken in range(letters):
        powers.append(key % FIELD)
        key = key // FIELD
    return tuple(reversed(powers))


def packed_terms(one):
    """The terms with their powers packed."""
    return [(packed(powers), number) for powers, number in one]


def check_powers(one):
    """Refuses a letter sum with too great a power."""
    for powers, number in one:
        if any([power > MOST_POWER for power in powers]):
            raise TooMuch("too great a power")


def times(one, other):
    """The product of two letter sums."""
    if len(one) * len(other) > MOST_PAIRS:
        raise TooMuch("too many pairs of terms")
    totals = {}
    others = packed_terms(other)
    for key, number in packed_terms(one):
        for other_key, other_number in others:
            place = key + other_key
            totals[place] = totals.get(place, 0) + number * other_number
    letters = len(one[0][0]) if one else 0
    product = sum_of_totals(totals)
    unpacked_terms = tuple([(unpacked(key, letters), number) for key, number in product])
    check_powers(unpacked_terms)
    return unpacked_terms


def part_of_term(powers, number, lead):
    """The term that times the leading one is the term of these; None where there is none."""
    rest = tuple([power - its for power, its in zip(powers, lead[0])])
    if number % lead[1] != 0 or any([power < 0 for power in rest]):
        return None
    return (rest, number // lead[1])


def take_away(left, terms, shift, factor):
    """Takes the terms, moved by the packed shift and times the factor, away from what is left."""
    for key, number in terms:
        place = key + shift
        rest = left.get(place, 0) - factor * number
        if rest == 0:
            left.pop(place)
        else:
            left[place] = rest


def parted(one, other):
    """The letter sum that times the other one is the one; None where there is none."""
    if not other:
        raise NoPart("nothing is parted by nought")
    lead = other[-1]
    terms = packed_terms(other)
    left = dict(packed_terms(one))
    found = []
    while left:
        greatest = max(left)
        term = part_of_term(unpacked(greatest, len(lead[0])), left[greatest], lead)
        if term is None:
            return None
        if len(found) == MOST_TERMS:
            raise TooMuch("too many terms of the part")
        found.append(term)
        take_away(left, terms, packed(term[0]), term[1])
    return tuple(reversed(found))
