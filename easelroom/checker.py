"""The checker: which papers are let by (points 42 and 43)."""

from easelroom.drawings import sort_of
from easelroom.errors import TooMuch
from easelroom.letters import number_sum
from easelroom.raws import claim_sums, free_thing, letter_count, raw, sums_times, tie


def due_sums(rows, k):
    """How many sums the letter thing of a row has."""
    return 6 if sort_of(rows, k) == "curve" else 3


def is_right_entry(rows, things, k, entry):
    """Whether the entry of a row is right, with the things of the entries ahead."""
    if len(entry[0]) != due_sums(rows, k):
        return False
    if rows[k][0] == "free":
        return entry == (free_thing(rows, k), number_sum(1, letter_count(rows)))
    if rows[k][0] == "other" and tie(rows, things, k) != ():
        return False
    made = raw(rows, things, k)
    return any(made) and made == sums_times(entry[0], entry[1])


def is_right_paper(rows, claim, paper):
    """Whether the paper is right; refused with TooMuch where a reckoning is."""
    if len(paper) != len(rows):
        return False
    things = []
    for k, entry in enumerate(paper):
        if not is_right_entry(rows, things, k, entry):
            return False
        things.append(entry[0])
    return not any(claim_sums(rows, things, claim))


def lets_by(rows, claim, paper):
    """Whether the paper is let by, for the claim on the drawing."""
    try:
        right = is_right_paper(rows, claim, paper)
    except TooMuch:
        return False
    return right
