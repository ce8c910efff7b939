"""Values and traces that several tests use."""

import copy
import random
import unittest

LOOP = ((0, 1), (0, 1), (0, 1), (0, 0))
PAIR = ((0, 1), (1, 1), (0, 0), (1, 0))

# Branches 7 and 0 alone, one pair, nothing but zeros or ones, branches with few outcomes beside ones with many.
TRACES = (
    LOOP,
    PAIR,
    ((0, 0),),
    ((7, 1),),
    ((3, 0), (3, 0), (3, 0)),
    ((2, 1), (2, 1)),
    ((0, 0), (1, 1), (0, 0)),
    ((7, 1), (0, 0), (7, 1), (7, 0), (0, 1)),
    ((5, 0), (5, 1), (2, 1), (5, 1), (5, 0), (5, 0)),
    tuple((branch, branch % 2) for branch in range(8)),
    tuple((7 - place % 8, 1 - place // 8 % 2) for place in range(24)),
    ((6, 1),) + ((1, 0),) * 31,
    ((4, 1),) + ((4, 0),) * 63,
    ((4, 0),) * 63 + ((4, 1),),
    ((0, 1),) + ((7, 0), (1, 1), (7, 1)) * 21,
    tuple((place * place % 8, place // 3 % 2) for place in range(64)),
)


def random_traces(seed, number):
    """So many traces of all sizes, the same ones for the same seed."""
    source = random.Random(seed)
    made = []
    for _ in range(number):
        size = source.choice((1, 2, 3, 4, 5, 7, 8, 12, 16, 33, 63, 64))
        some = source.sample(range(8), source.randint(1, 8))
        made.append(tuple((source.choice(some), source.randint(0, 1)) for _ in range(size)))
    return made


def schemes_of(length):
    """Schemes of a length with all four words, folded ones with no, few and most bits."""
    plain = (("own", length), ("split", length), ("shared", length))
    return plain + tuple(("folded", length, bits) for bits in (0, 1, 3, 16))


def cases(traces, lengths):
    """All traces with all schemes of the lengths."""
    return [(trace, scheme) for trace in traces for length in lengths for scheme in schemes_of(length)]


def nested(make, depth, inmost):
    value = inmost
    for _ in range(depth):
        value = make(value)
    return value


ANY_VALUES = (
    None, True, False, 0, 1, 2, -1, 7, 8, 63, 64, 65, 10 ** 18, -(10 ** 18),
    "", "0", "1", "0 1", "own", "own 3", "a\nb", " ~", "x" * 20000,
    (), (0,), (1,), (None,), (True,), ("0",), ((),), (0, 1), (0, 0, 0), ("own", 3), ("folded", 3, 2), (2, 1),
    ((0, 1),), ((0, 1), (0, 0)), ((0, True),), [(0, 1)], ([0, 1],), ((0, 1), [0, 1]), ((0, 1, 0),),
    [], [0], [1, 0], [[]], [None, "own", ()], ["own", 3], [2, 1],
    {}, {0: 1}, {"own": 3}, {1: [0, {2: ()}]}, {(0, 1): (1, 0)}, ({},), [{}],
    nested(lambda value: (value,), 19, 0), nested(lambda value: [value], 19, ()),
    nested(lambda value: {"in": value}, 19, None), nested(lambda value: (value, [value]), 9, 1),
)


def kinds(value):
    """The value with its kinds, down to the inmost ones: True is not 1 here, and a list not a tuple."""
    if isinstance(value, (tuple, list)):
        return (type(value).__name__, [kinds(item) for item in value])
    if isinstance(value, dict):
        return ("dict", [(kinds(key), kinds(value[key])) for key in value])
    return (type(value).__name__, value)


class Unchanged:
    """A context manager: at the end of its block the values are as they were at the beginning."""

    def __init__(self, case, *values):
        self.case = case
        self.values = values
        self.before = copy.deepcopy(values)

    def __enter__(self):
        return self

    def __exit__(self, kind, value, trace):
        if kind is None:
            self.case.assertEqual(kinds(self.values), kinds(self.before))


class ExactTest(unittest.TestCase):
    """A test that compares the kinds of values, too."""

    def same(self, given, expected):
        """Equal, and of the same kinds: a tuple is not a list, 1 is not True."""
        self.assertEqual(kinds(given), kinds(expected))
