"""Traces, patterns, schemes and counters: what is one, and the parts of a trace."""

from pastenough.errors import NoBranch

MOST_ITEMS = 64
LAST_BRANCH = 7
MOST_LENGTH = 64
MOST_FOLD_BITS = 16
MOST_COUNTER_BITS = 4
PLAIN_WORDS = ("own", "split", "shared")


def is_integer(value):
    """Whether any value is an integer."""
    # Python takes True and False for integers, the document does not.
    return isinstance(value, int) and not isinstance(value, bool)


def is_within(value, low, high):
    """Whether any value is an integer from low to high."""
    return is_integer(value) and low <= value <= high


def is_branch(value):
    """Whether any value is a branch."""
    return is_within(value, 0, LAST_BRANCH)


def is_outcome(value):
    """Whether any value is an outcome."""
    return is_within(value, 0, 1)


def is_tuple_sized(value, least, most):
    """Whether any value is a tuple with at least and at most so many entries."""
    return isinstance(value, tuple) and least <= len(value) <= most


def is_pair(value):
    """Whether any value is a pair of a branch and an outcome."""
    return is_tuple_sized(value, 2, 2) and is_branch(value[0]) and is_outcome(value[1])


def is_trace(value):
    """Whether any value is a trace."""
    return is_tuple_sized(value, 1, MOST_ITEMS) and all([is_pair(item) for item in value])


def is_pattern(value):
    """Whether any value is a pattern."""
    return is_tuple_sized(value, 1, MOST_ITEMS) and all([is_outcome(item) for item in value])


def is_scheme(value):
    """Whether any value is a scheme."""
    if not is_tuple_sized(value, 2, 3) or not is_within(value[1], 0, MOST_LENGTH):
        return False
    if len(value) == 2:
        return value[0] in PLAIN_WORDS
    return value[0] == "folded" and is_within(value[2], 0, MOST_FOLD_BITS)


def is_counter(value):
    """Whether any value is a counter."""
    if not is_tuple_sized(value, 2, 2) or not is_within(value[0], 1, MOST_COUNTER_BITS):
        return False
    return is_within(value[1], 0, (1 << value[0]) - 1)


def scheme_of(word, length, bits):
    """The scheme of a word and a length; the bits are used for "folded" only."""
    if word == "folded":
        return (word, length, bits)
    return (word, length)


def branches(trace):
    """The ascending tuple of the branches of a trace."""
    return tuple(sorted({branch for branch, outcome in trace}))


def outcomes_of(trace, branch):
    """The tuple of the outcomes of a branch in one round. Raises NoBranch."""
    # A boolean equals an integer, so being among the branches is not enough.
    if isinstance(branch, bool) or branch not in branches(trace):
        raise NoBranch(branch)
    return tuple([outcome for other, outcome in trace if other == branch])


def all_outcomes(trace):
    """The tuple of all outcomes of one round."""
    return tuple([outcome for branch, outcome in trace])


def trace_of(pattern):
    """The trace in which the branch 0 has the outcomes of a pattern."""
    return tuple([(0, outcome) for outcome in pattern])


def root_of(items):
    """The root of a pattern or of a trace."""
    for size in range(1, len(items)):
        root = items[:size]
        if root * (len(items) // size) == items:
            return root
    return items


def turned(trace, steps):
    """The trace that begins so many positions later, or earlier if steps is below 0."""
    start = steps % len(trace)
    return trace[start:] + trace[:start]
