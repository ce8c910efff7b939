"""branches, outcomes_of, all_outcomes, trace_of, root_of and turned."""

import itertools
import random
import unittest

from pastenough.errors import NoBranch, PastError
from pastenough.traces import all_outcomes, branches, is_pattern, is_trace, outcomes_of, root_of, trace_of, turned
from tests.samples import ANY_VALUES, LOOP, PAIR, TRACES, ExactTest, Unchanged, kinds, random_traces

SOME_TRACES = TRACES + tuple(random_traces(2, 60))
SIZES = (1, 2, 3, 7, 63, 64)


class BranchesTest(ExactTest):
    def test_plain_traces(self):
        self.same(branches(LOOP), (0,))
        self.same(branches(PAIR), (0, 1))
        self.same(branches(((7, 1), (0, 0), (3, 1), (0, 1), (7, 0))), (0, 3, 7))
        self.same(branches(((5, 0),)), (5,))
        self.same(branches(((5, 0),) * 64), (5,))
        self.same(branches(tuple((branch, 0) for branch in (6, 1, 7, 0, 4, 3, 2, 5))), tuple(range(8)))

    def test_all_traces(self):
        for trace in SOME_TRACES:
            with self.subTest(trace=trace):
                present = [branch for branch in range(8) if any(pair[0] == branch for pair in trace)]
                self.same(branches(trace), tuple(present))
                self.same(branches(trace=trace), branches(trace))


class OutcomesOfTest(ExactTest):
    def refused(self, trace, value):
        with self.subTest(trace=trace, value=value), Unchanged(self, value):
            with self.assertRaises(NoBranch) as caught:
                outcomes_of(trace, value)
            self.assertIs(caught.exception.value, value)
            with self.assertRaises(NoBranch) as caught:
                outcomes_of(branch=value, trace=trace)
            self.assertIs(caught.exception.value, value)
            self.assertIsInstance(caught.exception, PastError)

    def test_plain_traces(self):
        self.same(outcomes_of(LOOP, 0), (1, 1, 1, 0))
        self.same(outcomes_of(PAIR, 0), (1, 0))
        self.same(outcomes_of(PAIR, 1), (1, 0))
        self.same(outcomes_of(((7, 1), (0, 0), (7, 1), (7, 0), (0, 1)), 7), (1, 1, 0))
        self.same(outcomes_of(((7, 1), (0, 0), (7, 1), (7, 0), (0, 1)), 0), (0, 1))
        self.same(outcomes_of(((5, 1),), 5), (1,))
        self.same(outcomes_of(((5, 0),) * 64, 5), (0,) * 64)

    def test_all_traces_and_branches(self):
        for trace in SOME_TRACES:
            for branch in range(8):
                expected = tuple(outcome for other, outcome in trace if other == branch)
                if expected:
                    with self.subTest(trace=trace, branch=branch):
                        self.same(outcomes_of(trace, branch), expected)
                        self.same(outcomes_of(branch=branch, trace=trace), expected)
                else:
                    self.refused(trace, branch)

    def test_integers_that_are_no_branches(self):
        for trace in (LOOP, PAIR, TRACES[9]):
            for value in (-1, -2, -8, 8, 9, 64, 10 ** 18, -(10 ** 18)):
                self.refused(trace, value)

    def test_booleans_are_no_branches(self):
        for trace in (LOOP, PAIR, ((1, 0),), TRACES[9]):
            self.refused(trace, True)
            self.refused(trace, False)

    def test_any_other_value(self):
        for trace in (LOOP, PAIR, ((7, 1),), TRACES[9]):
            for value in ANY_VALUES:
                if value.__class__ is not int:
                    self.refused(trace, value)

    def test_pairs_lists_dicts_and_strings_of_branches(self):
        for value in ((0, 1), (0,), [0], [0, 1], {0: 1}, {0: 0}, "0", "1", "", None, LOOP, PAIR, list(PAIR)):
            self.refused(PAIR, value)


class AllOutcomesTest(ExactTest):
    def test_plain_traces(self):
        self.same(all_outcomes(LOOP), (1, 1, 1, 0))
        self.same(all_outcomes(PAIR), (1, 1, 0, 0))
        self.same(all_outcomes(((7, 1),)), (1,))
        self.same(all_outcomes(((0, 0),)), (0,))

    def test_all_traces(self):
        for trace in SOME_TRACES:
            with self.subTest(trace=trace):
                expected = tuple(trace[place][1] for place in range(len(trace)))
                self.same(all_outcomes(trace), expected)
                self.same(all_outcomes(trace=trace), expected)


class TraceOfTest(ExactTest):
    def test_plain_patterns(self):
        self.same(trace_of((1, 1, 1, 0)), LOOP)
        self.same(trace_of((0,)), ((0, 0),))
        self.same(trace_of((1,)), ((0, 1),))

    def test_patterns_of_all_sizes(self):
        source = random.Random(3)
        for size in SIZES:
            for _ in range(5):
                pattern = tuple(source.randint(0, 1) for _ in range(size))
                with self.subTest(pattern=pattern):
                    trace = trace_of(pattern)
                    self.same(trace, tuple((0, outcome) for outcome in pattern))
                    self.same(trace_of(pattern=pattern), trace)
                    self.assertTrue(is_trace(trace))
                    self.same(all_outcomes(trace), pattern)
                    self.same(outcomes_of(trace, 0), pattern)
                    self.same(branches(trace), (0,))


def told_root(items):
    """The shortest beginning that, repeated, gives the items."""
    sizes = [size for size in range(1, len(items) + 1) if len(items) % size == 0]
    return next(items[:size] for size in sizes if items[:size] * (len(items) // size) == items)


class RootOfTest(ExactTest):
    def test_plain_patterns(self):
        self.same(root_of((1, 0, 1, 0)), (1, 0))
        self.same(root_of((1, 1)), (1,))
        self.same(root_of((0,)), (0,))
        self.same(root_of((1, 1, 1, 0)), (1, 1, 1, 0))

    def test_a_beginning_that_does_not_fit_in_whole_is_no_root(self):
        for pattern in ((1, 0, 1), (1, 0, 1, 0, 1), (0, 0, 1, 0, 0), (1, 1, 0, 1, 1, 0, 1), (1, 0, 0) * 21 + (1,)):
            with self.subTest(pattern=pattern):
                self.same(root_of(pattern), pattern)

    def test_all_short_patterns(self):
        for size in range(1, 13):
            for pattern in itertools.product((0, 1), repeat=size):
                self.assertEqual(kinds(root_of(pattern)), kinds(told_root(pattern)), pattern)

    def test_repetitions_of_a_primitive_pattern(self):
        for root in ((0,), (1,), (0, 1), (1, 0), (1, 1, 0), (0, 0, 0, 1), (1, 0, 0, 1, 0, 1, 1), (0,) * 31 + (1,)):
            for times in range(1, 64 // len(root) + 1):
                with self.subTest(root=root, times=times):
                    self.same(root_of(root * times), root)
                    self.same(root_of(items=root * times), root)

    def test_repetitions_with_one_entry_otherwise(self):
        for root in ((0,), (1, 0), (1, 1, 0), (0, 0, 0, 1), (1, 0, 0, 1, 0, 1, 1, 0)):
            for times in (2, 3, 4, 8):
                pattern = root * times
                for place in range(len(pattern)):
                    other = pattern[:place] + (1 - pattern[place],) + pattern[place + 1:]
                    with self.subTest(other=other):
                        self.same(root_of(other), told_root(other))
                        self.assertGreater(len(root_of(other)), len(root))

    def test_sixty_four_outcomes(self):
        for size in (1, 2, 4, 8, 16, 32, 64):
            root = (0,) * (size - 1) + (1,)
            with self.subTest(size=size):
                self.same(root_of(root * (64 // size)), root)
        for place in range(64):
            pattern = tuple(int(place == at) for at in range(64))
            self.same(root_of(pattern), pattern)

    def test_traces(self):
        self.same(root_of(((4, 1),)), ((4, 1),))
        self.same(root_of(((4, 1), (4, 1))), ((4, 1),))
        self.same(root_of(LOOP), LOOP)
        self.same(root_of(LOOP * 16), LOOP)
        self.same(root_of(PAIR * 3), PAIR)
        for trace in SOME_TRACES:
            with self.subTest(trace=trace):
                self.same(root_of(trace), told_root(trace))

    def test_traces_that_differ_in_their_branches_only(self):
        self.same(root_of(((0, 1), (1, 1))), ((0, 1), (1, 1)))
        trace = ((0, 1), (0, 0)) * 5
        for place in range(len(trace)):
            other = trace[:place] + ((1, trace[place][1]),) + trace[place + 1:]
            self.same(root_of(other), other)


class TurnedTest(ExactTest):
    def test_plain_traces(self):
        self.same(turned(LOOP, -1), ((0, 0), (0, 1), (0, 1), (0, 1)))
        self.same(turned(PAIR, 1), ((1, 1), (0, 0), (1, 0), (0, 1)))
        self.same(turned(PAIR, 3), ((1, 0), (0, 1), (1, 1), (0, 0)))
        self.same(turned(PAIR, 0), PAIR)
        self.same(turned(PAIR, 4), PAIR)
        self.same(turned(PAIR, -4), PAIR)
        self.same(turned(PAIR, 10 ** 18), PAIR)
        self.same(turned(PAIR, 10 ** 18 - 1), turned(PAIR, 3))
        self.same(turned(((7, 1),), 5), ((7, 1),))

    def test_all_traces_and_steps(self):
        far = (10 ** 18, 10 ** 18 - 1, 10 ** 18 - 17, -(10 ** 18), 1 - 10 ** 18, 29 - 10 ** 18)
        for trace in SOME_TRACES:
            size = len(trace)
            for steps in (0, 1, 2, size - 1, size, size + 1, 3 * size + 2, -1, -2, -size, -size - 1, 1 - size) + far:
                with self.subTest(trace=trace, steps=steps):
                    expected = tuple(trace[(place + steps) % size] for place in range(size))
                    self.same(turned(trace, steps), expected)
                    self.same(turned(steps=steps, trace=trace), expected)


class SomewhatBeyondTest(ExactTest):
    """The interface: no error for what is somewhat beyond a limit."""

    def test_more_than_sixty_four(self):
        pattern = (0,) * 64 + (1,)
        trace = trace_of(pattern)
        self.assertFalse(is_pattern(pattern))
        self.assertFalse(is_trace(trace))
        self.same(trace, ((0, 0),) * 64 + ((0, 1),))
        self.same(root_of(pattern), pattern)
        self.same(turned(trace, 64), ((0, 1),) + ((0, 0),) * 64)
        self.same(all_outcomes(trace), pattern)
        self.same(outcomes_of(trace, 0), pattern)
        self.same(branches(trace), (0,))

    def test_steps_beyond(self):
        self.same(turned(PAIR, 10 ** 18 + 1), turned(PAIR, 1))
        self.same(turned(PAIR, -(10 ** 18) - 1), turned(PAIR, -1))


if __name__ == "__main__":
    unittest.main()
