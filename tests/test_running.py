"""errors_in, errors_by_branch and predictions."""

import itertools
import types
import unittest

from pastenough.histories import cell_at
from pastenough.running import errors_by_branch, errors_in, predictions
from tests.model import told_run, told_value, told_wrong
from tests.samples import LOOP, PAIR, TRACES, ExactTest, cases, random_traces, schemes_of

COUNTERS = tuple((bits, first) for bits in (1, 2, 3, 4) for first in range(2 ** bits))
SOME_TRACES = TRACES + tuple(random_traces(15, 12))
EIGHT = TRACES[9]


class PredictionsTest(ExactTest):
    def test_plain_predictions(self):
        self.same(list(predictions(LOOP, ("shared", 0), (2, 1), 1)), [(0, 0, 1), (0, 1, 1), (0, 1, 1), (0, 1, 0)])
        self.same(
            list(predictions(PAIR, ("split", 1), (1, 0), 2)),
            [(0, 0, 1), (1, 0, 1), (0, 0, 0), (1, 0, 0), (0, 1, 1), (1, 1, 1), (0, 0, 0), (1, 0, 0)],
        )
        self.same(list(predictions(((7, 1),), ("own", 0), (2, 0), 4)), [(7, 0, 1), (7, 0, 1), (7, 1, 1), (7, 1, 1)])

    def test_no_rounds(self):
        for trace in TRACES:
            for scheme in schemes_of(3):
                self.same(list(predictions(trace, scheme, (2, 1), 0)), [])

    def test_all_counters(self):
        for trace in (LOOP, PAIR, TRACES[7]):
            for scheme in schemes_of(0) + schemes_of(2):
                for counter in COUNTERS:
                    with self.subTest(trace=trace, scheme=scheme, counter=counter):
                        expected = list(itertools.chain(*told_run(trace, scheme, counter, 9)))
                        self.same(list(predictions(trace, scheme, counter, 9)), expected)

    def test_all_traces(self):
        for trace, scheme in cases(SOME_TRACES, (0, 1, 5, 64)):
            for counter in ((1, 1), (2, 1), (4, 9)):
                with self.subTest(trace=trace, scheme=scheme, counter=counter):
                    expected = list(itertools.chain(*told_run(trace, scheme, counter, 3)))
                    self.same(list(predictions(trace, scheme, counter, 3)), expected)

    def test_they_are_those_of_the_cells_at_the_moments(self):
        for trace, scheme in cases((LOOP, PAIR, TRACES[6], EIGHT), (0, 1, 4)):
            values = {}
            for moment, (branch, prediction, outcome) in enumerate(predictions(trace, scheme, (2, 2), 6)):
                cell = cell_at(trace, scheme, moment)
                value = values.get(cell, 2)
                self.same((branch, outcome), trace[moment % len(trace)])
                self.same(prediction, 1 if value >= 2 else 0)
                values[cell] = told_value(2, value, outcome)

    def test_it_is_a_generator(self):
        self.assertIsInstance(predictions(LOOP, ("shared", 2), (2, 1), 300), types.GeneratorType)
        self.assertIsInstance(predictions(LOOP, ("shared", 2), (2, 1), 0), types.GeneratorType)

    def test_walked_twice(self):
        walk = predictions(PAIR, ("own", 1), (2, 1), 5)
        told = list(walk)
        self.assertEqual(len(told), 20)
        self.same(list(walk), [])
        self.same(list(predictions(PAIR, ("own", 1), (2, 1), 5)), told)

    def test_left_early(self):
        told = list(predictions(PAIR, ("own", 1), (2, 1), 5))
        left = predictions(PAIR, ("own", 1), (2, 1), 5)
        self.same([next(left), next(left)], told[:2])
        self.same(list(predictions(PAIR, ("own", 1), (2, 1), 5)), told)
        self.same(next(left), told[2])
        left.close()
        self.same(list(left), [])
        self.same(list(predictions(PAIR, ("own", 1), (2, 1), 5)), told)

    def test_two_at_once(self):
        told = list(predictions(LOOP, ("shared", 2), (2, 1), 4))
        both = list(zip(predictions(LOOP, ("shared", 2), (2, 1), 4), predictions(LOOP, ("shared", 2), (2, 1), 4)))
        self.same(both, [(triple, triple) for triple in told])

    def test_arguments_by_name(self):
        given = list(predictions(rounds=1, counter=(2, 1), scheme=("shared", 0), trace=LOOP))
        self.same(given, [(0, 0, 1), (0, 1, 1), (0, 1, 1), (0, 1, 0)])


class ErrorsTest(ExactTest):
    def check(self, trace, scheme, counter, rounds):
        with self.subTest(trace=trace, scheme=scheme, counter=counter, rounds=rounds):
            told = list(itertools.chain(*told_run(trace, scheme, counter, rounds)))
            self.same(errors_in(trace, scheme, counter, rounds), told_wrong(told))
            present = sorted({branch for branch, _ in trace})
            by_branch = [(branch, told_wrong([row for row in told if row[0] == branch])) for branch in present]
            self.same(errors_by_branch(trace, scheme, counter, rounds), tuple(by_branch))

    def test_plain_errors(self):
        self.same([errors_in(LOOP, ("shared", 0), (2, 1), rounds) for rounds in range(4)], [0, 2, 3, 4])
        self.same([errors_in(LOOP, ("shared", 3), (2, 1), rounds) for rounds in range(4)], [0, 3, 5, 5])
        self.same(errors_in(LOOP, ("shared", 0), (2, 1), 300), 301)
        self.same([errors_in(((7, 1),), ("own", 64), (1, 0), rounds) for rounds in (0, 1, 2, 64, 65, 66, 300)],
                  [0, 1, 2, 64, 65, 65, 65])

    def test_plain_errors_by_branch(self):
        self.same(errors_by_branch(PAIR, ("split", 1), (1, 0), 2), ((0, 1), (1, 1)))
        self.same(errors_by_branch(((7, 1), (2, 0), (7, 1)), ("own", 0), (4, 0), 300), ((2, 0), (7, 8)))
        self.same(errors_by_branch(EIGHT, ("own", 0), (1, 0), 1), tuple((branch, branch % 2) for branch in range(8)))

    def test_no_rounds(self):
        for trace in SOME_TRACES:
            for scheme in schemes_of(2):
                self.check(trace, scheme, (2, 1), 0)
        self.same(errors_in(PAIR, ("own", 1), (1, 0), 0), 0)
        self.same(errors_by_branch(PAIR, ("own", 1), (1, 0), 0), ((0, 0), (1, 0)))

    def test_all_counters(self):
        for trace in (LOOP, PAIR, TRACES[7], ((5, 0),)):
            for scheme in schemes_of(1):
                for counter in COUNTERS:
                    self.check(trace, scheme, counter, 7)

    def test_three_hundred_rounds(self):
        for trace in TRACES[:9]:
            for scheme in (("own", 64), ("split", 1), ("shared", 3), ("folded", 64, 16), ("folded", 2, 0)):
                self.check(trace, scheme, (3, 4), 300)
        for scheme in (("own", 2), ("folded", 64, 16)):
            self.check(TRACES[15], scheme, (2, 1), 300)

    def test_all_traces(self):
        for trace, scheme in cases(SOME_TRACES, (0, 1, 64)):
            for rounds in (1, 4):
                self.check(trace, scheme, (2, 2), rounds)

    def test_arguments_by_name(self):
        self.same(errors_in(rounds=2, counter=(2, 1), scheme=("shared", 0), trace=LOOP), 3)
        self.same(errors_by_branch(rounds=2, counter=(1, 0), scheme=("split", 1), trace=PAIR), ((0, 1), (1, 1)))


class SomewhatBeyondTest(ExactTest):
    """The interface: no error for what is somewhat beyond a limit."""

    def test_more_and_less(self):
        self.same(errors_in(LOOP, ("shared", 0), (2, 1), 301), 302)
        self.same(errors_in(LOOP, ("shared", 0), (2, 1), -1), 0)
        self.same(errors_by_branch(LOOP, ("shared", -1), (2, 1), 2), ((0, 3),))
        self.same(errors_in(((0, 1),), ("shared", 65), (5, 0), 100), 81)


if __name__ == "__main__":
    unittest.main()
