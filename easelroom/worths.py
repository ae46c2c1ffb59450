"""Worths of letter sums, heights, and lighter sums (points 29, 32 and 33)."""

from easelroom.errors import NoPart
from easelroom.letters import sum_of_totals
from easelroom.plain import divisor


def powers_up_to(number, greatest):
    """The number taken 0 times, once, and so on up to so many times."""
    found = [1]
    for taken in range(greatest):
        found.append(found[taken] * number)
    return found


def height(one, letter):
    """The greatest power of the letter in the sum."""
    return max([powers[letter] for powers, number in one], default=0)


def worth_at(one, numbers):
    """The worth of the letter sum at the numbers, one for each letter."""
    tables = [powers_up_to(number, height(one, letter)) for letter, number in enumerate(numbers)]
    total = 0
    for powers, number in one:
        product = number
        for power, table in zip(powers, tables):
            product = product * table[power]
        total = total + product
    return total


def put(one, letter, number):
    """The letter sum with the number put for the letter."""
    table = powers_up_to(number, height(one, letter))
    totals = {}
    for powers, factor in one:
        rest = powers[:letter] + (0,) + powers[letter + 1:]
        totals[rest] = totals.get(rest, 0) + factor * table[powers[letter]]
    return sum_of_totals(totals)


def least_away(sums, letter):
    """The least number from 0 on that, put for the letter, leaves none of the sums nought."""
    number = 0
    while not all([put(one, letter, number) for one in sums]):
        number = number + 1
    return number


def away(one, letters):
    """Numbers at which the worth of the letter sum is not 0, letter by letter the least."""
    if not one:
        raise NoPart("nought has no worth but 0")
    left = one
    numbers = []
    for letter in range(letters):
        numbers.append(least_away([left], letter))
        left = put(left, letter, numbers[letter])
    return tuple(numbers)


def common(one):
    """The greatest number that divides all numbers of the sum; 0 of nought."""
    return divisor([number for powers, number in one])


def without(one, factor, least):
    """The sum parted by the factor and by each letter as often as the least powers tell."""
    return tuple([
        (tuple([power - less for power, less in zip(powers, least)]), number // factor) for powers, number in one
    ])


def ends_below_nought(some):
    """Whether the greatest term of the last one that is not nought has a number below 0."""
    last = [one for one in some if one][-1]
    return last[-1][1] < 0


def lighter(some):
    """The letter sums, not all nought, without what number, powers and sign they have in common."""
    terms = []
    for one in some:
        terms.extend(one)
    factor = common(terms)
    if ends_below_nought(some):
        factor = -factor
    least = [min([powers[letter] for powers, number in terms]) for letter in range(len(terms[0][0]))]
    return tuple([without(one, factor, least) for one in some])
