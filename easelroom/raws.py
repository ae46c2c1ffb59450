"""Letter things of a drawing's rows, reckoned as of numbers, nothing taken out (points 39 to 41)."""

from easelroom.choosing import rising
from easelroom.drawings import free_rows, sort_of
from easelroom.letters import letter_sum, minus, number_sum, plus, times
from easelroom.spots import CORNERS


def letter_count(rows):
    """How many letters the drawing has."""
    return 2 * max(len(free_rows(rows)) - 4, 0)


def free_thing(rows, k):
    """The letter thing of a free row."""
    letters = letter_count(rows)
    place = free_rows(rows).index(k)
    if place < 4:
        return tuple([number_sum(number, letters) for number in CORNERS[place]])
    first = 2 * (place - 4)
    return (letter_sum(first, letters), letter_sum(first + 1, letters), number_sum(1, letters))


def less_swapped(one, other, i, j):
    """The one's sum i times the other's sum j less the one's j times the other's i."""
    return minus(times(one[i], other[j]), times(one[j], other[i]))


def sum_cross(one, other):
    """The cross of two letter things of three."""
    return (less_swapped(one, other, 1, 2), less_swapped(one, other, 2, 0), less_swapped(one, other, 0, 1))


def sum_dot(one, other):
    """The dot of two letter things of three."""
    total = ()
    for mine, its in zip(one, other):
        total = plus(total, times(mine, its))
    return total


def sum_turn(one, other, third):
    """The turn of three letter things of three."""
    return sum_dot(sum_cross(one, other), third)


def sums_times(some, factor):
    """Each of the letter sums times the factor."""
    return tuple([times(one, factor) for one in some])


def sums_minus(some, others):
    """Each of the letter sums less the other one at its place."""
    return tuple([minus(one, other) for one, other in zip(some, others)])


def sum_together(line, other):
    """The six letter sums of two lines together."""
    return (
        times(line[0], other[0]),
        plus(times(line[0], other[1]), times(line[1], other[0])),
        times(line[1], other[1]),
        plus(times(line[0], other[2]), times(line[2], other[0])),
        plus(times(line[1], other[2]), times(line[2], other[1])),
        times(line[2], other[2]),
    )


def doubled(one):
    """Twice a letter sum."""
    return plus(one, one)


def sum_table(curve):
    """The three rows of the table of a curve's letter thing."""
    return (
        (doubled(curve[0]), curve[1], curve[3]),
        (curve[1], doubled(curve[2]), curve[4]),
        (curve[3], curve[4], doubled(curve[5])),
    )


def turned_rows(rows):
    """The rows of the turned table."""
    return (sum_cross(rows[1], rows[2]), sum_cross(rows[2], rows[0]), sum_cross(rows[0], rows[1]))


def rows_times(rows, thing):
    """The table of these rows times a letter thing of three."""
    return tuple([sum_dot(row, thing) for row in rows])


def rows_on_both_sides(rows, one, other):
    """What the table of these rows comes to with the letter things on both sides."""
    return sum_dot(one, rows_times(rows, other))


def rows_size(rows):
    """The size of the table of these rows."""
    return sum_turn(rows[0], rows[1], rows[2])


def curve_raw(five):
    """The raw of a curve of five letter things."""
    first = sum_cross(five[0], five[1])
    second = sum_cross(five[2], five[3])
    third = sum_cross(five[0], five[2])
    last = sum_cross(five[1], five[3])
    more = times(sum_dot(first, five[4]), sum_dot(second, five[4]))
    less = times(sum_dot(third, five[4]), sum_dot(last, five[4]))
    return sums_minus(sums_times(sum_together(third, last), more), sums_times(sum_together(first, second), less))


def pole_raw(curve, line):
    """The raw of a pole."""
    rows = sum_table(curve)
    return sums_times(rows_times(turned_rows(rows), line), rows_size(rows))


def other_raw(curve, one, other):
    """The raw of an other."""
    rows = sum_table(curve)
    own = rows_on_both_sides(rows, other, other)
    shared = doubled(rows_on_both_sides(rows, one, other))
    return sums_minus(sums_times(one, own), sums_times(other, shared))


def raw(rows, things, k):
    """The raw of a row that is not free, with letter things of the rows ahead."""
    word = rows[k][0]
    told = [things[number] for number in rows[k][1:]]
    if word == "curve":
        return curve_raw(told)
    if word == "about":
        return rows_times(sum_table(told[0]), told[1])
    if word == "pole":
        return pole_raw(told[0], told[1])
    if word == "other":
        return other_raw(told[0], told[1], told[2])
    return sum_cross(told[0], told[1])


def tie(rows, things, k):
    """The tie of an other: nought just where its first spot lies on the curve at all numbers."""
    spot = things[rows[k][2]]
    return rows_on_both_sides(sum_table(things[rows[k][1]]), spot, spot)


def same_sums(one, other):
    """The sums of a claim that two letter things are the same."""
    if len(one) == 3:
        return list(sum_cross(one, other))
    return [less_swapped(one, other, places[0], places[1]) for places in rising(len(one), 2)]


def on_sum(rows, claim, told):
    """The sum of a claim that a spot lies on a line or a curve."""
    if sort_of(rows, claim[2]) == "line":
        return sum_dot(told[0], told[1])
    return rows_on_both_sides(sum_table(told[1]), told[0], told[0])


def claim_sums(rows, things, claim):
    """The sums of a claim, with a letter thing for each row."""
    told = [things[number] for number in claim[1:]]
    if claim[0] == "same":
        return same_sums(told[0], told[1])
    if claim[0] == "on":
        return [on_sum(rows, claim, told)]
    if claim[0] == "touch":
        return [rows_on_both_sides(turned_rows(sum_table(told[1])), told[0], told[0])]
    if claim[0] == "parted":
        return [rows_size(sum_table(told[0]))]
    return [sum_turn(told[0], told[1], told[2])]
