"""is_trace, is_pattern, is_scheme and is_counter: what they accept and refuse among all values."""

import unittest

from pastenough.traces import is_counter, is_pattern, is_scheme, is_trace
from tests.samples import ANY_VALUES, TRACES, Unchanged, kinds, nested, random_traces

DEEP_TUPLE = nested(lambda value: (value,), 18, 0)
DEEP_LIST = nested(lambda value: [value], 18, 0)
DEEP_DICT = nested(lambda value: {0: value}, 18, 0)

# What stands nowhere in place of an integer, whatever its bounds are.
NO_INTEGERS = (
    None, True, False, "", "0", "1", "2", "own", (), (0,), (1,), [], [0], [1], {}, {0: 1}, {1: 0},
    DEEP_TUPLE, DEEP_LIST, DEEP_DICT,
)
FAR_INTEGERS = (10 ** 18, -(10 ** 18))


class KindsTest(unittest.TestCase):
    def check(self, told, value, expected):
        with self.subTest(told=told.__name__, value=value), Unchanged(self, value):
            self.assertIs(told(value), expected)
            self.assertIs(told(value=value), expected)
            self.assertIs(told(value), expected)

    def accepted(self, told, values):
        for value in values:
            self.check(told, value, True)

    def refused(self, told, values):
        for value in values:
            self.check(told, value, False)

    def refused_within(self, told, good, bad_items):
        """Refused with a bad item in the place of the first, a middle and the last good one."""
        for bad in bad_items:
            for place in sorted({0, len(good) // 2, len(good) - 1}):
                self.refused(told, [good[:place] + (bad,) + good[place + 1:]])


class AnyValueTest(KindsTest):
    def check_all(self, told, right):
        right_kinds = [kinds(value) for value in right]
        for value in ANY_VALUES:
            self.check(told, value, kinds(value) in right_kinds)

    def test_is_trace(self):
        self.check_all(is_trace, [((0, 1),), ((0, 1), (0, 0))])

    def test_is_pattern(self):
        self.check_all(is_pattern, [(0,), (1,), (0, 1), (0, 0, 0)])

    def test_is_scheme(self):
        self.check_all(is_scheme, [("own", 3), ("folded", 3, 2)])

    def test_is_counter(self):
        self.check_all(is_counter, [(2, 1)])


class IsTraceTest(KindsTest):
    def test_all_pairs_of_a_branch_and_an_outcome(self):
        self.accepted(is_trace, [((branch, outcome),) for branch in range(8) for outcome in (0, 1)])

    def test_traces(self):
        self.accepted(is_trace, TRACES)
        self.accepted(is_trace, random_traces(1, 20))

    def test_the_number_of_pairs(self):
        self.accepted(is_trace, [((0, 1),) * pairs for pairs in (1, 2, 63, 64)])
        self.accepted(is_trace, [((7, 0),) * pairs for pairs in (1, 2, 63, 64)])
        self.refused(is_trace, [((0, 1),) * pairs for pairs in (0, 65, 66, 128)])

    def test_branches_and_outcomes_beyond_their_bounds(self):
        bad_pairs = [(branch, outcome) for branch in (-1, 8, 9) + FAR_INTEGERS for outcome in (0, 1)]
        bad_pairs += [(branch, outcome) for branch in (0, 7) for outcome in (-1, 2) + FAR_INTEGERS]
        self.refused_within(is_trace, ((0, 1),), bad_pairs)
        self.refused_within(is_trace, ((0, 1), (7, 0), (3, 1)), bad_pairs)
        self.refused_within(is_trace, ((0, 1),) * 64, bad_pairs)

    def test_other_values_in_the_place_of_integers(self):
        bad_pairs = [(bad, 1) for bad in NO_INTEGERS] + [(0, bad) for bad in NO_INTEGERS]
        self.refused_within(is_trace, ((0, 1),), bad_pairs)
        self.refused_within(is_trace, ((0, 1),) * 5, bad_pairs)

    def test_other_values_in_the_place_of_pairs(self):
        bad_pairs = [(), (0,), (1,), (0, 1, 0), (0, 1, 1), (0, 1, None), (0, 1, ()), ((0, 1),), ((0, 1), (0, 1))]
        bad_pairs += [[0, 1], [0], [], {0: 1}, {0: 0, 1: 1}, "01", "0:1", 0, 1]
        bad_pairs += list(NO_INTEGERS) + list(FAR_INTEGERS)
        self.refused_within(is_trace, ((0, 1),), bad_pairs)
        self.refused_within(is_trace, ((0, 1),) * 5, bad_pairs)

    def test_other_values_in_the_place_of_the_tuple(self):
        self.refused(is_trace, [[(0, 1)], [(0, 1), (1, 0)], [[0, 1]], {(0, 1): (0, 1)}, {0: (0, 1)}, "0:1", (0, 1)])
        self.refused(is_trace, [(1, 1, 1, 0), [], (), {}, "", 0, 1, True, False, None])


class IsPatternTest(KindsTest):
    def test_patterns(self):
        self.accepted(is_pattern, [(0,), (1,), (0, 0), (0, 1), (1, 0), (1, 1), (1, 1, 1, 0)])

    def test_the_number_of_outcomes(self):
        for outcome in (0, 1):
            self.accepted(is_pattern, [(outcome,) * outcomes for outcomes in (1, 2, 63, 64)])
            self.refused(is_pattern, [(outcome,) * outcomes for outcomes in (0, 65, 66, 128)])

    def test_other_values_in_the_place_of_outcomes(self):
        bad_items = (-1, 2, 3) + FAR_INTEGERS + NO_INTEGERS + ((0, 1), [0, 1])
        self.refused_within(is_pattern, (1,), bad_items)
        self.refused_within(is_pattern, (1, 0, 0), bad_items)
        self.refused_within(is_pattern, (0, 1) * 32, bad_items)

    def test_other_values_in_the_place_of_the_tuple(self):
        self.refused(is_pattern, [[1], [1, 0], [], {1: 0}, {0: 1, 1: 0}, {}, "1", "1110", "", 0, 1, True, False, None])
        self.refused(is_pattern, [((0, 1), (0, 0)), ((1,),), ([1],), DEEP_TUPLE, DEEP_LIST, DEEP_DICT])


class IsSchemeTest(KindsTest):
    def test_all_words_and_lengths(self):
        for word in ("own", "split", "shared"):
            self.accepted(is_scheme, [(word, length) for length in range(65)])

    def test_folded_schemes(self):
        self.accepted(is_scheme, [("folded", length, bits) for length in (0, 1, 7, 63, 64) for bits in range(17)])
        self.accepted(is_scheme, [("folded", length, bits) for length in range(65) for bits in (0, 16)])

    def test_lengths_beyond_their_bounds(self):
        for length in (-1, -2, 65, 66, 128) + FAR_INTEGERS + NO_INTEGERS:
            self.refused(is_scheme, [(word, length) for word in ("own", "split", "shared")])
            self.refused(is_scheme, [("folded", length, bits) for bits in (0, 3, 16)])

    def test_bits_beyond_their_bounds(self):
        for bits in (-1, -2, 17, 18, 32, 64) + FAR_INTEGERS + NO_INTEGERS:
            self.refused(is_scheme, [("folded", length, bits) for length in (0, 3, 64)])

    def test_other_words(self):
        words = ["", " ", "Own", "OWN", "own ", " own", "ow", "owns", "Split", "splitted", "share", "SHARED", "fold"]
        words += ["Folded", "folde", "folded3", "own split", "own\n", "o", "global"]
        words += [0, 1, 10 ** 18, ("own",), ["own"], {"own": "own"}] + list(NO_INTEGERS)
        for word in words:
            if word != "own":
                self.refused(is_scheme, [(word, 3), (word, 3, 2), (word, 0, 0)])

    def test_too_few_and_too_many_entries(self):
        for word in ("own", "split", "shared"):
            self.refused(is_scheme, [(word,), (word, 3, 2), (word, 0, 0), (word, 3, 2, 1)])
            self.refused(is_scheme, [(word, 3, None), (word, 3, ()), (word, 3, "")])
        self.refused(is_scheme, [("folded",), ("folded", 3), ("folded", 0), ("folded", 3, ())])
        self.refused(is_scheme, [("folded", 3, 2, 1), ("folded", 3, 2, None), ("folded", 3, 2, ())])
        self.refused(is_scheme, [(), (3,), (3, 2), ("own", "own"), (3, "own"), (2, 3, "folded"), ("folded", "3", 2)])
        self.refused(is_scheme, [("own", 3) * 2, (("own", 3),), ("own", (3,)), ("own", 3, "folded", 3, 2)])

    def test_other_values_in_the_place_of_the_tuple(self):
        self.refused(is_scheme, [["own", 3], ["folded", 3, 2], {"own": 3}, "own", "own 3", "", "ow", 0, 3, True, None])
        self.refused(is_scheme, [DEEP_TUPLE, DEEP_LIST, DEEP_DICT, {}, []])


class IsCounterTest(KindsTest):
    def test_all_counters(self):
        for bits in (1, 2, 3, 4):
            self.accepted(is_counter, [(bits, first) for first in range(2 ** bits)])

    def test_first_values_beyond_their_bounds(self):
        for bits in (1, 2, 3, 4):
            self.refused(is_counter, [(bits, first) for first in (-1, 2 ** bits, 2 ** bits + 1) + FAR_INTEGERS])

    def test_bits_beyond_their_bounds(self):
        for bits in (-1, 0, 5, 6, 64) + FAR_INTEGERS:
            self.refused(is_counter, [(bits, first) for first in (-1, 0, 1, 2, 15, 16, 31)])

    def test_other_values_in_the_place_of_integers(self):
        for bad in NO_INTEGERS:
            self.refused(is_counter, [(bad, first) for first in (0, 1)])
            self.refused(is_counter, [(bits, bad) for bits in (1, 2, 4)])
            self.refused(is_counter, [(bad, bad)])

    def test_too_few_and_too_many_entries(self):
        self.refused(is_counter, [(), (1,), (2,), (2, 1, 0), (2, 1, 1), (2, 1, None), (2, 1, ())])
        self.refused(is_counter, [(2, 1, 2, 1), ((2, 1),), ((2,), (1,))])

    def test_other_values_in_the_place_of_the_tuple(self):
        self.refused(is_counter, [[2, 1], [1, 0], {2: 1}, {1: 0, 2: 1}, "21", "2 1", "", 2, 1, 0, True, False, None])
        self.refused(is_counter, [DEEP_TUPLE, DEEP_LIST, DEEP_DICT, {}, []])


if __name__ == "__main__":
    unittest.main()
