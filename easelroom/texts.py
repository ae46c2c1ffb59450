"""Spots and drawings as texts, written and read (points 47 and 48)."""

from easelroom.claims import is_claim
from easelroom.drawings import is_drawing
from easelroom.errors import NoText
from easelroom.plain import is_plain

FIGURES = "0123456789"
SMALL_LETTERS = "abcdefghijklmnopqrstuvwxyz"
MOST_FIGURES = 60
MOST_SIGNS = 8


def show_number(number):
    """The number in figures, with a - ahead where it is below 0."""
    # Part by part, for Python itself refuses to write a number of some thousand figures at once.
    parts = []
    left = abs(number)
    while left >= 10 ** 64:
        parts.append(str(left % 10 ** 64).zfill(64))
        left = left // 10 ** 64
    parts.append(str(left))
    if number < 0:
        parts.append("-")
    return "".join(reversed(parts))


def show_spot(spot):
    """The spot as a text."""
    return ",".join([show_number(number) for number in spot])


def is_number_text(text):
    """Whether the text is a number as it is written, of at most sixty figures."""
    if text == "0":
        return True
    figures = text[1:] if text.startswith("-") else text
    if len(figures) < 1 or len(figures) > MOST_FIGURES or figures.startswith("0"):
        return False
    return all([sign in FIGURES for sign in figures])


def read_spot(text):
    """The spot that a text tells."""
    if not isinstance(text, str):
        raise NoText("no text")
    words = text.split(",")
    if len(words) != 3 or not all([is_number_text(word) for word in words]):
        raise NoText("no three numbers with a comma between")
    spot = tuple([int(word) for word in words])
    if not is_plain(spot, 3):
        raise NoText("the spot is not plain")
    return spot


def is_name(text):
    """Whether the text is a name: a small letter and up to seven small letters or figures behind it."""
    if len(text) < 1 or len(text) > MOST_SIGNS or text[0] not in SMALL_LETTERS:
        return False
    return all([sign in SMALL_LETTERS + FIGURES for sign in text])


def with_names(row, names):
    """The word of a row or a claim, and names in the place of its numbers."""
    return [row[0]] + [names[number] for number in row[1:]]


def show_drawing(rows, names, claim):
    """The drawing with its claim as a text."""
    lines = [" ".join([names[k]] + with_names(row, names)) for k, row in enumerate(rows)]
    lines.append(" ".join(["claim"] + with_names(claim, names)))
    return "; ".join(lines)


def with_numbers(words, names):
    """The row or the claim of a word and names of rows ahead."""
    if not all([word in names for word in words[1:]]):
        raise NoText("a name of no row ahead")
    return (words[0],) + tuple([names.index(word) for word in words[1:]])


def read_rows(lines):
    """The rows and their names, of lines that are lists of words."""
    rows = []
    names = []
    for words in lines:
        if len(words) < 2 or not is_name(words[0]) or words[0] in names:
            raise NoText("no name of a row, or one told twice")
        rows.append(with_numbers(words[1:], names))
        names.append(words[0])
    return (rows, names)


def read_drawing(text):
    """The rows, their names and the claim that a text tells."""
    if not isinstance(text, str):
        raise NoText("no text")
    lines = [line.split(" ") for line in text.split("; ")]
    told = read_rows(lines[:-1])
    last = lines[-1]
    if len(last) < 2 or last[0] != "claim":
        raise NoText("no claim at the end")
    claim = with_numbers(last[1:], told[1])
    if not is_drawing(told[0]) or not is_claim(told[0], claim):
        raise NoText("no drawing, or no claim on it")
    return (told[0], told[1], claim)
