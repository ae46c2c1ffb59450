"""The finder: claims decided for every placing (points 45 and 46)."""

from easelroom.errors import Tied
from easelroom.letters import number_sum, parted
from easelroom.placings import kept
from easelroom.raws import claim_sums, free_thing, letter_count, raw, tie
from easelroom.worths import lighter


def first_sum(some):
    """The first of the letter sums that is not nought."""
    return [one for one in some if one][0]


def entry_of(made):
    """The entry of a row of which this, not nought in all its sums, is the raw."""
    thing = lighter(made)
    return (thing, parted(first_sum(made), first_sum(thing)))


def row_raw(rows, things, k):
    """The raw of a row; refused where it is an other with a tie that is not nought."""
    if rows[k][0] == "other" and tie(rows, things, k) != ():
        raise Tied(k)
    return raw(rows, things, k)


def answer(rows, claim, paper, made):
    """The paper, or a placing at which the claim fails; made has a letter sum, not nought, of each raw."""
    failing = [one for one in claim_sums(rows, [entry[0] for entry in paper], claim) if one]
    if not failing:
        return ("paper", paper)
    # Where no raw is nought at the numbers, all rows can be done.
    return ("placing", kept(made + failing[:1], letter_count(rows)))


def decided(rows, claim):
    """What is decided of the claim: a paper, a placing, or the row that can never be done."""
    paper = []
    made = []
    for k in range(len(rows)):
        if rows[k][0] == "free":
            paper.append((free_thing(rows, k), number_sum(1, letter_count(rows))))
        else:
            sums = row_raw(rows, [entry[0] for entry in paper], k)
            if not any(sums):
                return ("never", k)
            paper.append(entry_of(sums))
            made.append(first_sum(sums))
    return answer(rows, claim, paper, made)
