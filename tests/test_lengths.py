"""least_length, reason, reach and longest_factor."""

import itertools
import random
import unittest

from pastenough.clashes import shows_clash, shows_table, table
from pastenough.lengths import least_length, longest_factor, reach, reason
from pastenough.traces import root_of, trace_of
from tests.model import told_clashes, told_steady
from tests.samples import LOOP, PAIR, TRACES, ExactTest, random_traces

SOME_TRACES = TRACES + tuple(random_traces(8, 12))
SMALL_TRACES = tuple(trace for trace in SOME_TRACES if len(trace) <= 8)
EIGHT = TRACES[9]
ONE_AMONG_64 = ((4, 1),) + ((4, 0),) * 63
# With 1 bit a cell is whether the history has an odd number of ones, XORed with the branch.
NEVER = ((0, 0), (0, 1), (1, 0))
BRANCHES = "044040440004400440400044444400400"


def told_scheme(word, length, bits):
    return (word, length, bits) if word == "folded" else (word, length)


def told_least(trace, word, bits=0):
    """The least length without a clash, from the clashes of all lengths."""
    sure = [length for length in range(65) if not told_clashes(trace, told_scheme(word, length, bits))]
    return sure[0] if sure else None


def told_factor(pattern):
    """The greatest number of outcomes of a factor that begins twice, from all factors written out."""
    root = root_of(pattern)
    if len(root) == 1:
        return None
    longest = 0
    for length in range(1, len(root) + 1):
        factors = [(root * 2)[at:at + length] for at in range(len(root))]
        if len(set(factors)) < len(factors):
            longest = length
    return longest


def patterns_up_to(size):
    return [pattern for many in range(1, size + 1) for pattern in itertools.product((0, 1), repeat=many)]


def large_patterns():
    source = random.Random(9)
    made = [(0,) * 63 + (1,), (1,) + (0,) * 63, (0, 1) * 32, (0, 1) * 31 + (1, 1), (0,) * 32 + (1,) * 32, (1,) * 64]
    made += [(0, 1, 1) * 21, (0, 1, 1) * 21 + (0,), (0,) * 63]
    for size in (16, 33, 48, 63, 64):
        made += [tuple(source.randint(0, 1) for _ in range(size)) for _ in range(3)]
    return made


class LeastLengthTest(ExactTest):
    def test_plain_traces(self):
        self.same(least_length(LOOP, "shared"), 3)
        self.same([least_length(PAIR, word) for word in ("own", "split", "shared")], [1, 1, 2])
        self.same(least_length(PAIR, "folded", bits=1), 1)
        self.same(least_length(PAIR, "folded", bits=0), None)
        self.same(least_length(PAIR, "folded"), None)
        self.same([least_length(((7, 1),), word) for word in ("own", "split", "shared", "folded")], [0, 0, 0, 0])

    def test_bits_are_used_for_folded_only(self):
        for bits in (0, 1, 16):
            self.same([least_length(PAIR, word, bits=bits) for word in ("own", "split", "shared")], [1, 1, 2])

    def test_eight_branches(self):
        self.same([least_length(EIGHT, word) for word in ("own", "split", "shared")], [0, 0, 1])
        self.same([least_length(EIGHT, "folded", bits=bits) for bits in (0, 1, 2, 3, 16)], [None, 0, 0, 0, 0])

    def test_63_is_the_greatest_length_that_is_needed(self):
        for word in ("own", "split", "shared"):
            self.same(least_length(ONE_AMONG_64, word), 63)
        self.same(least_length(ONE_AMONG_64, "folded", bits=16), told_least(ONE_AMONG_64, "folded", 16))

    def test_a_folded_table_may_need_64(self):
        trace = tuple((int(branch), int(at in (1, 11, 28))) for at, branch in enumerate(BRANCHES))
        self.same(told_least(trace, "folded", 4), 64)
        self.same(least_length(trace, "folded", bits=4), 64)
        self.same(reason(trace, "folded", bits=4)[0], 64)

    def test_no_length_is_sure(self):
        self.same(least_length(LOOP, "folded", bits=0), None)
        self.same([least_length(NEVER, "folded", bits=bits) for bits in (0, 1)], [None, None])

    def test_all_traces(self):
        for trace in SOME_TRACES:
            for word in ("own", "split", "shared"):
                with self.subTest(trace=trace, word=word):
                    least = least_length(trace, word)
                    self.assertLessEqual(least, 63)
                    self.same(told_clashes(trace, (word, least)), [])
                    for length in range(max(0, least - 3), least):
                        self.assertNotEqual(told_clashes(trace, (word, length)), [])

    def test_all_lengths_of_few_pairs(self):
        for trace in SMALL_TRACES:
            for word in ("own", "split", "shared"):
                self.same(least_length(trace, word), told_least(trace, word))
            for bits in (0, 1, 2, 3, 16):
                with self.subTest(trace=trace, bits=bits):
                    self.same(least_length(trace, "folded", bits=bits), told_least(trace, "folded", bits))

    def test_folded_tables_of_many_pairs(self):
        for trace in (TRACES[-1], TRACES[-2], TRACES[10], TRACES[11]):
            for bits in (0, 1, 5, 16):
                with self.subTest(trace=trace, bits=bits):
                    self.same(least_length(trace, "folded", bits=bits), told_least(trace, "folded", bits))

    def test_arguments_by_name(self):
        self.same(least_length(bits=1, word="folded", trace=PAIR), 1)
        self.same(least_length(word="shared", trace=LOOP), 3)

    def test_bits_by_name_only(self):
        with self.assertRaises(TypeError):
            least_length(PAIR, "folded", 1)


class ReasonTest(ExactTest):
    def check(self, trace, word, bits):
        with self.subTest(trace=trace, word=word, bits=bits):
            least = least_length(trace, word, bits=bits)
            given = reason(trace, word, bits=bits)
            if least is None:
                self.same(given, None)
                return
            length, shown, clash = given
            self.assertIs(type(given), tuple)
            self.same(length, least)
            scheme = told_scheme(word, length, bits)
            self.same(shown, table(trace, scheme))
            self.same(shows_table(trace, scheme, shown), True)
            if length == 0:
                self.same(clash, None)
            else:
                less = told_scheme(word, length - 1, bits)
                self.assertIn(clash, told_clashes(trace, less))
                self.same(shows_clash(trace, less, clash), True)

    def test_plain_traces(self):
        self.same(reason(LOOP, "shared"), (3, (("011", 1), ("101", 1), ("110", 1), ("111", 0)), (2, 3)))
        self.same(reason(((7, 1),), "own"), (0, (((7, ""), 1),), None))
        self.same(reason(((7, 1),), "shared"), (0, (("", 1),), None))
        self.same(reason(((7, 1),), "folded"), (0, ((0, 1),), None))
        self.same(reason(LOOP, "folded"), None)
        self.same(reason(NEVER, "folded", bits=1), None)
        self.same(reason(PAIR, "folded", bits=1)[:2], (1, ((0, 1), (1, 0))))
        self.assertIn(reason(PAIR, "folded", bits=1)[2], told_clashes(PAIR, ("folded", 0, 1)))

    def test_all_traces(self):
        for trace in SOME_TRACES:
            for word in ("own", "split", "shared"):
                self.check(trace, word, 0)
            for bits in (0, 1, 4, 16):
                self.check(trace, "folded", bits)

    def test_the_bits_are_those_of_the_folded_scheme(self):
        for bits in range(17):
            self.check(EIGHT, "folded", bits)
            self.check(PAIR, "folded", bits)

    def test_arguments_by_name(self):
        self.same(reason(bits=3, word="folded", trace=((7, 1),)), (0, ((7, 1),), None))

    def test_bits_by_name_only(self):
        with self.assertRaises(TypeError):
            reason(PAIR, "folded", 1)


class ReachTest(ExactTest):
    def test_plain_patterns(self):
        self.same(reach((1, 1, 1, 0)), 3)
        self.same([reach(pattern) for pattern in ((0,), (1,), (1, 1), (0,) * 64)], [0] * 4)
        self.same([reach(pattern) for pattern in ((0, 1), (1, 0), (1, 0, 1, 0), (0, 1) * 32)], [1] * 4)
        self.same([reach(pattern) for pattern in ((0, 0, 1), (0, 0, 1, 1), (0, 1, 1, 0, 1))], [2, 2, 4])

    def test_sixty_four_and_sixty_five_outcomes(self):
        self.same(reach((0,) * 63 + (1,)), 63)
        self.same(reach((1,) + (0,) * 63), 63)
        self.same(reach((0,) * 64 + (1,)), 64)
        self.same(reach((0,) * 65), 0)
        self.same(reach((0, 1) * 32 + (1,)), 64)
        self.same(reach((0, 0, 1, 1, 1) * 13), 3)

    def test_it_is_the_least_length_of_the_trace(self):
        for pattern in patterns_up_to(8) + large_patterns():
            with self.subTest(pattern=pattern):
                self.same(reach(pattern), told_least(trace_of(pattern), "shared"))

    def test_the_histories_of_the_root_differ_from_the_reach_on(self):
        for pattern in patterns_up_to(7) + large_patterns():
            root = root_of(pattern)
            least = reach(pattern)
            with self.subTest(pattern=pattern):
                self.assertEqual(len(set(told_steady(trace_of(root), ("shared", least)))), len(root))
                if least > 0:
                    self.assertLess(len(set(told_steady(trace_of(root), ("shared", least - 1)))), len(root))

    def test_arguments_by_name(self):
        self.same(reach(pattern=(0, 0, 1)), 2)


class LongestFactorTest(ExactTest):
    def check(self, pattern):
        with self.subTest(pattern=pattern):
            given = longest_factor(pattern)
            longest = told_factor(pattern)
            if longest is None:
                self.same(given, None)
                self.same(reach(pattern), 0)
                return
            self.assertIs(type(given), tuple)
            length, one, other = given
            self.same(length, longest)
            self.same(reach(pattern), length + 1)
            root = root_of(pattern)
            self.assertTrue(0 <= one < other < len(root))
            self.same([type(one), type(other)], [int, int])
            self.same((root * 2)[one:one + length], (root * 2)[other:other + length])

    def test_plain_patterns(self):
        self.same(longest_factor((1, 1, 1, 0)), (2, 0, 1))
        self.same(longest_factor((1, 1)), None)
        self.same(longest_factor((0,)), None)
        self.same(longest_factor((0,) * 64), None)
        self.same(longest_factor((0, 1)), (0, 0, 1))
        self.same(longest_factor((0, 1) * 32), (0, 0, 1))
        self.same(longest_factor((0, 0, 1)), (1, 0, 1))
        self.same(longest_factor((0, 1, 1, 1)), (2, 1, 2))
        self.same(longest_factor((1, 0, 1, 1)), (2, 2, 3))

    def test_a_factor_goes_round(self):
        self.same(longest_factor((0, 0, 1, 0, 0)), (3, 3, 4))

    def test_all_short_patterns(self):
        for pattern in patterns_up_to(8):
            self.check(pattern)

    def test_large_patterns(self):
        self.same(longest_factor((0,) * 63 + (1,)), (62, 0, 1))
        for pattern in large_patterns():
            self.check(pattern)

    def test_arguments_by_name(self):
        self.same(longest_factor(pattern=(0, 0, 1)), (1, 0, 1))


class SomewhatBeyondTest(ExactTest):
    """The interface: no error for what is somewhat beyond a limit."""

    def test_more_than_sixty_four(self):
        self.same(reach((0,) * 69 + (1,)), 69)
        self.same(longest_factor((0,) * 69 + (1,)), (68, 0, 1))
        self.same(least_length(((0, 0),) * 64 + ((0, 1),), "shared"), 64)
        self.same(least_length(((0, 0),) * 65 + ((0, 1),), "shared"), None)
        self.same(reason(((0, 0),) * 65 + ((0, 1),), "split"), None)


if __name__ == "__main__":
    unittest.main()
