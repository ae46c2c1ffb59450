"""What several tests need: small rows, great numbers, and things of every other kind."""

import itertools
import math
import random

THREE_HUNDRED = 10 ** 299 + 7
THREE_THOUSAND = 10 ** 2999 + 9

NO_ROWS = [
    None, True, False, 0, 1, -3, "", "plain", "(1, 0, 0)", [], [1], [[1, 0, 0]], (), ((),), ((1, 0, 0),),
    (None,), ("1",), (True,), [None, [None, [None, [None, [None, [None]]]]]],
    (((((1,),),),),),
]

NO_NUMBERS = [True, False, None, "1", "", (1,), (), [1], []]


def is_plain_row(row):
    """Plainness told anew, by other means than the package's."""
    if math.gcd(*row) != 1:
        return False
    return [number for number in row if number != 0][-1] > 0


def small_rows(greatest, many=3):
    """All plain rows of so many numbers from -greatest to greatest."""
    span = range(-greatest, greatest + 1)
    return [row for row in itertools.product(span, repeat=many) if is_plain_row(row)]


def alike_but_factor(row, numbers):
    """Whether row and numbers come from one another by one factor."""
    pairs = itertools.combinations(range(len(row)), 2)
    return len(row) == len(numbers) and all(row[i] * numbers[j] == row[j] * numbers[i] for i, j in pairs)


def determinant(numbers):
    """The size of nine numbers, straight from the words of point 8."""
    a, b, c, d, e, f, g, h, i = numbers
    return a * (e * i - f * h) - b * (d * i - f * g) + c * (d * h - e * g)


def some_maps(many, greatest=4, seed=8):
    """Plain rows of nine whose size is not 0, always the same ones."""
    chance = random.Random(seed)
    found = []
    while len(found) < many:
        row = tuple(chance.randint(-greatest, greatest) for place in range(9))
        if determinant(row) != 0 and is_plain_row(row):
            found.append(row)
    return found


def lie_on_line(one, other, third):
    return determinant(one + other + third) == 0


def some_free_fours(many, greatest=3, seed=10):
    """Lists of four spots, no three on one line, always the same ones."""
    chance = random.Random(seed)
    spots = small_rows(greatest)
    found = []
    while len(found) < many:
        four = [chance.choice(spots) for place in range(4)]
        if not any(lie_on_line(*three) for three in itertools.combinations(four, 3)):
            found.append(four)
    return found


def made_plain(numbers):
    """The plain row of the numbers, told anew, by other means than the package's."""
    factor = math.gcd(*numbers)
    if [number for number in numbers if number != 0][-1] < 0:
        factor = -factor
    return tuple(number // factor for number in numbers)


def mapped(by, spot):
    """The spot to which a map leads a spot, straight from the words of point 8."""
    return made_plain([sum(by[3 * k + j] * spot[j] for j in range(3)) for k in range(3)])


def line_of(one, other):
    """The line of two unlike spots, or the spot of two unlike lines."""
    (a, b, c), (d, e, f) = one, other
    return made_plain([b * f - c * e, c * d - a * f, a * e - b * d])


def spots_of_line(line, greatest=3):
    """Spots of small numbers on the line."""
    return [spot for spot in small_rows(greatest) if sum(a * b for a, b in zip(spot, line)) == 0]


def any_things():
    """Things of every kind that may be handed in where any thing may."""
    return NO_ROWS + [
        (None, None, None), ("free",), ("join", 0, 1), ["join", 0, 1], [("free",)], [[("free",)]], (("free",),),
        "p free; claim same p p", "0,0,1", [True, False], (True, 1, (2, [3, (4,)])), ((((),),),), -1, 10 ** 20,
    ]


def sketched(text):
    """The rows and the claim, if any, of rows written with names, as `p free; q free; l join p q; claim on p l`."""
    names, rows, claim = [], [], None
    for line in text.split("; "):
        words = line.split(" ")
        if words[0] == "claim" and line == text.split("; ")[-1]:
            claim = (words[1],) + tuple(names.index(name) for name in words[2:])
        else:
            rows.append((words[1],) + tuple(names.index(name) for name in words[2:]))
            names.append(words[0])
    return rows, claim


FOUR = "a free; b free; c free; d free"
FIVE = FOUR + "; e free"
SIX = FIVE + "; f free"
SEVEN = SIX + "; g free"

# One drawing with rows of every word; its other can be done wherever the curve can.
ALL_WORDS = SIX + (
    "; q curve a b c d e; ab join a b; cd join c d; m meet ab cd; t about q a; p about q f; x pole q ab"
    "; o other q e f; xm join x m"
)
EVERY = sketched(ALL_WORDS)[0]
EVERY_NAMES = [line.split(" ")[0] for line in ALL_WORDS.split("; ")]


def every(name):
    """The number of a row of EVERY."""
    return EVERY_NAMES.index(name)
