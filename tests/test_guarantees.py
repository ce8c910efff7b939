"""What section 4 of the document guarantees, beside a plain simulation that runs until its state repeats."""

import itertools
import random
import unittest

from pastenough.clashes import groups, is_sure, shows_clash, shows_table
from pastenough.counters import settled_errors
from pastenough.lengths import least_length, reason
from tests.model import ToldPredictor, told_for_ever, told_wrong
from tests.samples import LOOP, PAIR, TRACES, ExactTest, cases, random_traces, schemes_of

COUNTERS = tuple((bits, first) for bits in (1, 2, 3, 4) for first in range(2 ** bits))
SOME_COUNTERS = ((1, 0), (1, 1), (2, 1), (2, 2), (3, 7), (4, 0), (4, 15))
PLAIN_WORDS = ("own", "split", "shared")


def all_traces(size, some_branches):
    pairs = itertools.product(some_branches, (0, 1))
    return list(itertools.product(pairs, repeat=size))


TINY = [trace for size in (1, 2) for trace in all_traces(size, (0, 1))]
SMALL = all_traces(3, (0, 3)) + random.Random(12).sample(all_traces(4, (0, 2, 5)), 40)
LARGE = TRACES + tuple(random_traces(13, 10))


def late_errors(trace, scheme, counter):
    """The numbers of errors in the rounds that repeat for ever."""
    rounds, again = told_for_ever(trace, scheme, counter)
    return [told_wrong(row) for row in rounds[again:]]


class SureTest(ExactTest):
    """Guarantee (a): sure exactly if the predictor makes no error from some moment on, for all counters alike."""

    def check(self, traces, lengths, counters):
        for trace, scheme in cases(traces, lengths):
            sure = is_sure(trace, scheme)
            for counter in counters:
                late = late_errors(trace, scheme, counter)
                self.assertEqual([errors == 0 for errors in late], [sure] * len(late), (trace, scheme, counter))

    def test_traces_of_one_and_two_pairs_with_all_counters(self):
        self.check(TINY, (0, 1, 2), COUNTERS)

    def test_traces_of_three_and_four_pairs(self):
        self.check(SMALL, (0, 1, 2, 3), SOME_COUNTERS)

    def test_the_named_traces_with_all_counters(self):
        self.check((LOOP, PAIR), (0, 1, 2, 3, 4), COUNTERS)

    def test_larger_traces(self):
        self.check(LARGE, (0, 1, 3), ((2, 1),))
        self.check(LARGE[::4], (8, 63, 64), ((1, 0), (4, 0)))


class LeastLengthTest(ExactTest):
    """Guarantee (b): least_length is exact, and what reason gives is right."""

    def check(self, trace, counter):
        for word in PLAIN_WORDS:
            least = least_length(trace, word)
            with self.subTest(trace=trace, word=word, counter=counter):
                self.assertIn(least, range(64))
                self.assertEqual(set(late_errors(trace, (word, least), counter)), {0})
                self.assertEqual(set(late_errors(trace, (word, least + 1), counter)), {0})
                if least > 0:
                    self.assertNotIn(0, late_errors(trace, (word, least - 1), counter))

    def test_small_traces(self):
        for trace in TINY + SMALL:
            self.check(trace, (2, 1))

    def test_large_traces(self):
        for trace in LARGE:
            self.check(trace, (1, 1))

    def test_some_length_up_to_63_is_always_sure(self):
        for trace in random_traces(14, 150):
            for word in PLAIN_WORDS:
                self.assertIn(least_length(trace, word), range(64))
        for place in (0, 1, 31, 62, 63):
            trace = tuple((0, int(at == place)) for at in range(64))
            self.assertEqual([least_length(trace, word) for word in PLAIN_WORDS], [63] * 3)

    def test_the_table_of_a_reason_predicts_all_rounds_and_its_clash_goes_wrong(self):
        for trace in TINY + SMALL + list(LARGE):
            for word in PLAIN_WORDS:
                length, shown, clash = reason(trace, word)
                with self.subTest(trace=trace, word=word):
                    self.assertIs(shows_table(trace, (word, length), shown), True)
                    if clash is None:
                        self.assertEqual(length, 0)
                    else:
                        self.assertIs(shows_clash(trace, (word, length - 1), clash), True)


class SettledCountersTest(ExactTest):
    """Guarantee (c), of each cell: its errors settle as settled_errors tells."""

    def check(self, trace, scheme, counter):
        predictor = ToldPredictor(scheme, counter)
        # From the round of this number on all histories are steady.
        for _ in range(scheme[1]):
            predictor.run(trace)
        settled = 0
        for cell, positions in groups(trace, scheme):
            outcomes = tuple(trace[position][1] for position in positions)
            settled += settled_errors((counter[0], predictor.values.get(cell, counter[1])), outcomes)
        late = late_errors(trace, scheme, counter)
        self.assertEqual(late, [settled] * len(late), (trace, scheme, counter))

    def test_small_traces(self):
        for trace, scheme in cases(TINY + [LOOP, PAIR], (0, 1, 2)):
            for counter in COUNTERS:
                self.check(trace, scheme, counter)

    def test_larger_traces(self):
        for trace in LARGE:
            for scheme in schemes_of(0) + schemes_of(2) + (("own", 64), ("folded", 64, 4)):
                for counter in ((2, 2), (4, 7)):
                    self.check(trace, scheme, counter)


if __name__ == "__main__":
    unittest.main()
