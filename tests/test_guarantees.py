"""What section 4 of the document guarantees, beside a plain simulation that runs until its state repeats."""

import itertools
import random
import unittest

from pastenough.clashes import clashes, groups, is_sure, shows_clash, shows_table
from pastenough.counters import settled_errors
from pastenough.far import last_error, settles, steady_errors, total_errors
from pastenough.fixed import best_table, fewest_errors, forced, table_errors
from pastenough.lengths import least_length, reason
from tests.model import ToldPredictor, told_clashes, told_for_ever, told_steady_cells, told_wrong
from tests.samples import LOOP, PAIR, TRACES, ExactTest, cases, random_traces, schemes_of

COUNTERS = tuple((bits, first) for bits in (1, 2, 3, 4) for first in range(2 ** bits))
SOME_COUNTERS = ((1, 0), (1, 1), (2, 1), (2, 2), (3, 7), (4, 0), (4, 15))
PLAIN_WORDS = ("own", "split", "shared")


def all_traces(size, some_branches):
    pairs = itertools.product(some_branches, (0, 1))
    return list(itertools.product(pairs, repeat=size))


TINY = [trace for size in (1, 2) for trace in all_traces(size, (0, 1))]
SMALL = all_traces(3, (0, 3)) + random.Random(12).sample(all_traces(4, (0, 2, 5)), 40)
LARGE = TRACES + tuple(random_traces(13, 10))


def late_errors(trace, scheme, counter):
    """The numbers of errors in the rounds that repeat for ever."""
    rounds, again = told_for_ever(trace, scheme, counter)
    return [told_wrong(row) for row in rounds[again:]]


class SureTest(ExactTest):
    """Guarantee (a): sure exactly if the predictor makes no error from some moment on, for all counters alike."""

    def check(self, traces, lengths, counters):
        for trace, scheme in cases(traces, lengths):
            sure = is_sure(trace, scheme)
            for counter in counters:
                late = late_errors(trace, scheme, counter)
                self.assertEqual([errors == 0 for errors in late], [sure] * len(late), (trace, scheme, counter))

    def test_traces_of_one_and_two_pairs_with_all_counters(self):
        self.check(TINY, (0, 1, 2), COUNTERS)

    def test_traces_of_three_and_four_pairs(self):
        self.check(SMALL, (0, 1, 2, 3), SOME_COUNTERS)

    def test_the_named_traces_with_all_counters(self):
        self.check((LOOP, PAIR), (0, 1, 2, 3, 4), COUNTERS)

    def test_larger_traces(self):
        self.check(LARGE, (0, 1, 3), ((2, 1),))
        self.check(LARGE[::4], (8, 63, 64), ((1, 0), (4, 0)))


class LeastLengthTest(ExactTest):
    """Guarantee (b): least_length is exact, and what reason gives is right."""

    def check(self, trace, counter):
        for word in PLAIN_WORDS:
            least = least_length(trace, word)
            with self.subTest(trace=trace, word=word, counter=counter):
                self.assertIn(least, range(64))
                self.assertEqual(set(late_errors(trace, (word, least), counter)), {0})
                self.assertEqual(set(late_errors(trace, (word, least + 1), counter)), {0})
                if least > 0:
                    self.assertNotIn(0, late_errors(trace, (word, least - 1), counter))

    def test_small_traces(self):
        for trace in TINY + SMALL:
            self.check(trace, (2, 1))

    def test_large_traces(self):
        for trace in LARGE:
            self.check(trace, (1, 1))

    def test_some_length_up_to_63_is_always_sure(self):
        for trace in random_traces(14, 150):
            for word in PLAIN_WORDS:
                self.assertIn(least_length(trace, word), range(64))
        for place in (0, 1, 31, 62, 63):
            trace = tuple((0, int(at == place)) for at in range(64))
            self.assertEqual([least_length(trace, word) for word in PLAIN_WORDS], [63] * 3)

    def test_the_table_of_a_reason_predicts_all_rounds_and_its_clash_goes_wrong(self):
        for trace in TINY + SMALL + list(LARGE):
            for word in PLAIN_WORDS:
                length, shown, clash = reason(trace, word)
                with self.subTest(trace=trace, word=word):
                    self.assertIs(shows_table(trace, (word, length), shown), True)
                    if clash is None:
                        self.assertEqual(length, 0)
                    else:
                        self.assertIs(shows_clash(trace, (word, length - 1), clash), True)


class SettledCountersTest(ExactTest):
    """Guarantee (c), of each cell: its errors settle as settled_errors tells."""

    def check(self, trace, scheme, counter):
        predictor = ToldPredictor(scheme, counter)
        # From the round of this number on all histories are steady.
        for _ in range(scheme[1]):
            predictor.run(trace)
        settled = 0
        for cell, positions in groups(trace, scheme):
            outcomes = tuple(trace[position][1] for position in positions)
            settled += settled_errors((counter[0], predictor.values.get(cell, counter[1])), outcomes)
        late = late_errors(trace, scheme, counter)
        self.assertEqual(late, [settled] * len(late), (trace, scheme, counter))

    def test_small_traces(self):
        for trace, scheme in cases(TINY + [LOOP, PAIR], (0, 1, 2)):
            for counter in COUNTERS:
                self.check(trace, scheme, counter)

    def test_larger_traces(self):
        for trace in LARGE:
            for scheme in schemes_of(0) + schemes_of(2) + (("own", 64), ("folded", 64, 4)):
                for counter in ((2, 2), (4, 7)):
                    self.check(trace, scheme, counter)


class FarErrorsTest(ExactTest):
    """Guarantee (c), of whole traces: from some round on each round has the same errors, and all counts are exact."""

    def check(self, trace, scheme, counter):
        rounds, again = told_for_ever(trace, scheme, counter)
        errors = [told_wrong(row) for row in rounds]
        steady = errors[-1]
        first = settles(trace, scheme, counter)
        with self.subTest(trace=trace, scheme=scheme, counter=counter):
            self.assertEqual(set(errors[again:]), {steady})
            self.same(steady_errors(trace, scheme, counter), steady)
            self.assertEqual(set(errors[first:]) - {steady}, set())
            self.assertTrue(first == 0 or errors[first - 1] != steady)
            # The rounds behind those of the simulation are like its last one.
            later = 10 ** 18 - len(errors)
            self.same(total_errors(trace, scheme, counter, 10 ** 18), sum(errors) + later * steady)
            wrong = [prediction != outcome for row in rounds for _, prediction, outcome in row]
            last = max([at for at, is_wrong in enumerate(wrong) if is_wrong], default=-1)
            self.same(last_error(trace, scheme, counter), None if steady > 0 else last)

    def test_traces_of_one_and_two_pairs_with_all_counters(self):
        for trace, scheme in cases(TINY, (0, 1, 2)):
            for counter in COUNTERS:
                self.check(trace, scheme, counter)

    def test_traces_of_three_and_four_pairs(self):
        for trace, scheme in cases(SMALL, (0, 1, 3)):
            for counter in ((1, 0), (2, 2), (4, 15)):
                self.check(trace, scheme, counter)


class FixedTablesTest(ExactTest):
    """Guarantee (d): no fixed table makes fewer errors, and each pair of forced forces one."""

    def check(self, trace, scheme):
        cells = told_steady_cells(trace, scheme)
        pairs = forced(trace, scheme)
        fewest = fewest_errors(trace, scheme)
        distinct = sorted(set(cells))
        with self.subTest(trace=trace, scheme=scheme):
            self.assertEqual(len(pairs), fewest)
            self.assertLessEqual(set(pairs), set(told_clashes(trace, scheme)))
            least = len(trace)
            for outcomes in itertools.product((0, 1), repeat=len(distinct)):
                known = dict(zip(distinct, outcomes))
                wrong = [known[cell] != outcome for cell, (_, outcome) in zip(cells, trace)]
                self.assertEqual([wrong[one] + wrong[other] for one, other in pairs], [1] * fewest)
                least = min(least, sum(wrong))
            self.assertEqual(least, fewest)
            self.assertEqual(table_errors(trace, scheme, best_table(trace, scheme)), fewest)

    def test_small_traces(self):
        for trace, scheme in cases(TINY + SMALL, (0, 1, 2)):
            self.check(trace, scheme)

    def test_larger_traces(self):
        for trace in LARGE:
            for scheme in (("shared", 0), ("shared", 2), ("own", 0), ("folded", 9, 3), ("folded", 64, 1)):
                self.check(trace, scheme)


class MoreHistoryTest(ExactTest):
    """Guarantee (e): what more history, and telling the branches apart, never makes worse."""

    def check_lengths(self, trace, word, lengths):
        for length in lengths:
            with self.subTest(trace=trace, word=word, length=length):
                less, more = (word, length), (word, length + 1)
                self.assertLessEqual(set(clashes(trace, more)), set(clashes(trace, less)))
                self.assertLessEqual(fewest_errors(trace, more), fewest_errors(trace, less))

    def check_words(self, trace, lengths):
        for length in lengths:
            with self.subTest(trace=trace, length=length):
                split, shared = ("split", length), ("shared", length)
                self.assertTrue(is_sure(trace, split) or not is_sure(trace, shared))
                self.assertLessEqual(fewest_errors(trace, split), fewest_errors(trace, shared))

    def test_small_traces(self):
        for trace in TINY + SMALL:
            for word in PLAIN_WORDS:
                self.check_lengths(trace, word, range(5))
            self.check_words(trace, range(6))

    def test_large_traces(self):
        for trace in LARGE:
            for word in PLAIN_WORDS:
                self.check_lengths(trace, word, (0, 1, 2, 3, 5, 9, 20, 62, 63))
            self.check_words(trace, (0, 1, 2, 3, 4, 6, 9, 20, 63, 64))


if __name__ == "__main__":
    unittest.main()
