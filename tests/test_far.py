"""steady_errors, settles, total_errors and last_error."""

import unittest

from pastenough.clashes import is_sure
from pastenough.far import last_error, settles, steady_errors, total_errors
from pastenough.running import errors_in
from tests.model import told_for_ever, told_run, told_wrong
from tests.samples import LOOP, PAIR, TRACES, ExactTest, cases, random_traces, schemes_of

COUNTERS = tuple((bits, first) for bits in (1, 2, 3, 4) for first in range(2 ** bits))
SMALL_TRACES = tuple(trace for trace in TRACES + tuple(random_traces(16, 20)) if len(trace) <= 8)
LARGE_TRACES = tuple(trace for trace in TRACES + tuple(random_traces(17, 16)) if len(trace) > 8)
FAR = 10 ** 18
SOME_NUMBERS = (1, 17, FAR)
NUMBERS = (0, 1, 2, 3, 15, 16, 17, 63, 64, 65, 79, 80, 81, 299, 300, 10 ** 9 + 7, FAR - 1, FAR)


class ToldErrors:
    """The errors of all rounds, from a simulation that runs until its state repeats."""

    def __init__(self, trace, scheme, counter):
        self.rounds, self.again = told_for_ever(trace, scheme, counter)
        self.errors = [told_wrong(row) for row in self.rounds]

    def steady(self):
        late = set(self.errors[self.again:])
        assert len(late) == 1, late
        return late.pop()

    def settles(self):
        other = [number for number, errors in enumerate(self.errors) if errors != self.steady()]
        return max(other) + 1 if other else 0

    def total(self, rounds):
        early, cycle = self.errors[:self.again], self.errors[self.again:]
        if rounds <= len(early):
            return sum(early[:rounds])
        times, rest = divmod(rounds - len(early), len(cycle))
        return sum(early) + times * sum(cycle) + sum(cycle[:rest])

    def last(self):
        if self.steady() > 0:
            return None
        flat = [triple for row in self.rounds for triple in row]
        return max([at for at, (_, prediction, outcome) in enumerate(flat) if prediction != outcome], default=-1)


class FarTest(ExactTest):
    def check(self, trace, scheme, counter, numbers=SOME_NUMBERS):
        told = ToldErrors(trace, scheme, counter)
        with self.subTest(trace=trace, scheme=scheme, counter=counter):
            self.same(steady_errors(trace, scheme, counter), told.steady())
            self.same(settles(trace, scheme, counter), told.settles())
            self.same(last_error(trace, scheme, counter), told.last())
            for rounds in numbers:
                self.same(total_errors(trace, scheme, counter, rounds), told.total(rounds))

    def test_all_counters(self):
        for trace in (LOOP, PAIR, ((7, 1),), ((0, 0),), TRACES[7]):
            for scheme in schemes_of(0) + schemes_of(3):
                for counter in COUNTERS:
                    self.check(trace, scheme, counter)

    def test_all_numbers_of_rounds(self):
        for trace, scheme in cases((LOOP, PAIR, ((7, 1),), TRACES[6]), (0, 1, 64)):
            self.check(trace, scheme, (2, 0), NUMBERS)

    def test_small_traces(self):
        for trace, scheme in cases(SMALL_TRACES[::2], (0, 2, 64)):
            for counter in ((1, 0), (4, 15)):
                self.check(trace, scheme, counter)

    def test_large_traces(self):
        for trace, scheme in cases(LARGE_TRACES, (0, 3)):
            self.check(trace, scheme, (3, 3))
        for trace in LARGE_TRACES[::5]:
            for scheme in (("own", 64), ("split", 63), ("shared", 64), ("folded", 64, 0), ("folded", 64, 16)):
                self.check(trace, scheme, (4, 0))


class SteadyErrorsTest(ExactTest):
    def test_plain_errors(self):
        self.same(steady_errors(LOOP, ("shared", 0), (2, 1)), 1)
        self.same(steady_errors(LOOP, ("shared", 3), (2, 1)), 0)
        self.same([steady_errors(((0, 0), (0, 1)), ("own", 0), (2, first)) for first in range(4)], [1, 1, 2, 1])
        self.same([steady_errors(((0, 0), (0, 1)), ("own", 0), (1, first)) for first in range(2)], [2, 2])
        self.same(steady_errors(((4, 0), (4, 1)) * 32, ("shared", 0), (1, 0)), 64)
        self.same(steady_errors(counter=(2, 1), scheme=("shared", 0), trace=LOOP), 1)

    def test_none_exactly_if_the_scheme_is_sure(self):
        for trace, scheme in cases(SMALL_TRACES + LARGE_TRACES[:4], (0, 1, 4)):
            for counter in ((1, 1), (2, 1), (4, 8)):
                self.assertEqual(steady_errors(trace, scheme, counter) == 0, is_sure(trace, scheme))


class SettlesTest(ExactTest):
    def test_plain_rounds(self):
        self.same(settles(LOOP, ("shared", 0), (2, 1)), 1)
        self.same(settles(LOOP, ("shared", 3), (2, 1)), 2)
        self.same(settles(((0, 0),), ("own", 64), (4, 0)), 0)
        self.same(settles(((0, 0),), ("own", 0), (4, 15)), 8)
        self.same(settles(((0, 1),), ("own", 0), (4, 0)), 8)
        self.same(settles(((0, 1),), ("own", 64), (4, 0)), 72)
        self.same(settles(counter=(2, 1), scheme=("shared", 3), trace=LOOP), 2)

    def test_the_round_ahead_of_it_has_other_errors(self):
        for trace, scheme in cases(SMALL_TRACES, (0, 1, 3)):
            for counter in ((1, 0), (3, 0), (4, 15)):
                first = settles(trace, scheme, counter)
                errors = [told_wrong(row) for row in told_run(trace, scheme, counter, first + 30)]
                self.assertEqual(set(errors[first:]), {steady_errors(trace, scheme, counter)})
                if first > 0:
                    self.assertNotEqual(errors[first - 1], errors[first])


class TotalErrorsTest(ExactTest):
    def test_plain_totals(self):
        self.same(total_errors(LOOP, ("shared", 0), (2, 1), FAR), FAR + 1)
        self.same(total_errors(LOOP, ("shared", 3), (2, 1), FAR), 5)
        self.same([total_errors(LOOP, ("shared", 0), (2, 1), rounds) for rounds in range(4)], [0, 2, 3, 4])
        self.same(total_errors(((4, 0), (4, 1)) * 32, ("shared", 0), (1, 0), FAR), 64 * FAR - 1)
        self.same(total_errors(((0, 1),), ("own", 64), (4, 0), FAR), 72)
        self.same(total_errors(rounds=3, counter=(2, 1), scheme=("shared", 0), trace=LOOP), 4)

    def test_the_first_rounds_are_those_of_errors_in(self):
        for trace, scheme in cases(SMALL_TRACES[::3], (0, 3, 64)):
            for counter in ((1, 0), (4, 11)):
                with self.subTest(trace=trace, scheme=scheme, counter=counter):
                    for rounds in (0, 1, 2, 16, 81, 120):
                        expected = errors_in(trace, scheme, counter, rounds)
                        self.same(total_errors(trace, scheme, counter, rounds), expected)


class LastErrorTest(ExactTest):
    def test_plain_moments(self):
        self.same(last_error(LOOP, ("shared", 0), (2, 1)), None)
        self.same(last_error(LOOP, ("shared", 3), (2, 1)), 5)
        self.same(last_error(((0, 0),), ("own", 3), (2, 1)), -1)
        self.same(last_error(((0, 1),) * 64, ("own", 0), (1, 1)), -1)
        self.same(last_error(((0, 1),), ("own", 0), (1, 0)), 0)
        self.same(last_error(((0, 1),), ("own", 64), (4, 0)), 71)
        self.same(last_error(counter=(2, 1), scheme=("shared", 3), trace=LOOP), 5)

    def test_there_it_is_an_error_and_none_behind_it(self):
        for trace, scheme in cases(SMALL_TRACES, (1, 4)):
            for counter in ((1, 1), (4, 0)):
                last = last_error(trace, scheme, counter)
                told = [row for rows in told_run(trace, scheme, counter, 40) for row in rows]
                wrong = [at for at, (_, prediction, outcome) in enumerate(told) if prediction != outcome]
                if last is None:
                    self.assertGreaterEqual(wrong[-1], 39 * len(trace))
                else:
                    self.assertEqual(wrong[-1:], [last] if last >= 0 else [])


class SomewhatBeyondTest(ExactTest):
    """The interface: no error for what is somewhat beyond a limit."""

    def test_more_and_less(self):
        self.same(total_errors(LOOP, ("shared", 0), (2, 1), FAR + 5), FAR + 6)
        self.same(total_errors(LOOP, ("shared", 0), (2, 1), -2), 0)
        self.same(steady_errors(LOOP, ("shared", 65), (5, 0)), 0)
        self.same(settles(((0, 1),), ("own", 70), (5, 0)), 86)
        self.same(settles(LOOP, ("shared", -1), (2, 1)), 1)


if __name__ == "__main__":
    unittest.main()
