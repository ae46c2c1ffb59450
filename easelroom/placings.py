"""Numbers at which no worth of some letter sums is 0 (point 44)."""

from easelroom.worths import least_away, put


def kept(sums, many):
    """Numbers, one for each letter, at which no worth of the letter sums, none of them nought, is 0."""
    left = list(sums)
    numbers = []
    for letter in range(many):
        # Each sum is nought for at most as many numbers as the letter's height in it tells: one soon leaves all.
        numbers.append(least_away(left, letter))
        left = [put(one, letter, numbers[letter]) for one in left]
    return numbers
