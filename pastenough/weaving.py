"""Two traces woven into one."""

from math import lcm

from pastenough.errors import TooLong, TooManyBranches
from pastenough.traces import LAST_BRANCH, MOST_ITEMS, branches


def woven(one, other):
    """The trace in which the pairs of both traces alternate. Raises TooLong, then TooManyBranches."""
    rounds, other_rounds = rounds_in(one, other)
    if 2 * rounds * len(one) > MOST_ITEMS:
        raise TooLong(MOST_ITEMS)
    shift = branches(one)[-1] + 1
    if branches(other)[-1] + shift > LAST_BRANCH:
        raise TooManyBranches(LAST_BRANCH + 1)
    pairs = []
    for pair, (branch, outcome) in zip(one * rounds, other * other_rounds):
        pairs.append(pair)
        pairs.append((branch + shift, outcome))
    return tuple(pairs)


def rounds_in(one, other):
    """(rounds of one, rounds of the other) in one round of the woven trace, whatever its length."""
    size = lcm(len(one), len(other))
    return (size // len(one), size // len(other))
