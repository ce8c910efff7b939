"""predicted, value_after, counted, value_map, fixed_values, settled_value, settled_errors and changes."""

import itertools
import random
import unittest

from pastenough.counters import (
    changes, counted, fixed_values, predicted, settled_errors, settled_value, value_after, value_map,
)
from tests.model import told_counted, told_value
from tests.samples import ExactTest

COUNTERS = tuple((bits, first) for bits in (1, 2, 3, 4) for first in range(2 ** bits))
ENDS = tuple((bits, first) for bits in (1, 2, 3, 4) for first in (0, 2 ** bits - 1))


def sequences(most):
    return [outcomes for size in range(most + 1) for outcomes in itertools.product((0, 1), repeat=size)]


def large_sequences():
    source = random.Random(11)
    made = [(0,) * 64, (1,) * 64, (0, 1) * 32, (1, 0) * 32, (0,) * 32 + (1,) * 32, (1,) * 63 + (0,), (1, 1, 0) * 21]
    return made + [tuple(int(source.random() < share) for _ in range(64)) for share in (0.1, 0.5, 0.5, 0.9)]


SHORT = sequences(6)
SOME = sequences(4) + large_sequences()


def told_settled(counter, outcomes):
    """(errors, value) of a late repetition, and the value behind the next one."""
    bits, value = counter
    for _ in range(40):
        errors, value = told_counted(bits, value, outcomes)
    return errors, value, told_counted(bits, value, outcomes)


class PredictedTest(ExactTest):
    def test_all_values(self):
        self.same([predicted(1, value) for value in range(2)], [0, 1])
        self.same([predicted(2, value) for value in range(4)], [0, 0, 1, 1])
        self.same([predicted(3, value) for value in range(8)], [0] * 4 + [1] * 4)
        self.same([predicted(4, value) for value in range(16)], [0] * 8 + [1] * 8)
        self.same(predicted(value=2, bits=2), 1)


class ValueAfterTest(ExactTest):
    def test_all_values(self):
        self.same([value_after(2, value, 1) for value in range(4)], [1, 2, 3, 3])
        self.same([value_after(2, value, 0) for value in range(4)], [0, 0, 1, 2])
        self.same([value_after(1, value, outcome) for value in (0, 1) for outcome in (0, 1)], [0, 1, 0, 1])
        for bits, value in COUNTERS:
            for outcome in (0, 1):
                self.same(value_after(bits, value, outcome), told_value(bits, value, outcome))
                self.same(value_after(outcome=outcome, value=value, bits=bits), told_value(bits, value, outcome))

    def test_it_stays_at_both_ends(self):
        for bits, top in ((1, 1), (2, 3), (3, 7), (4, 15)):
            self.same((value_after(bits, top, 1), value_after(bits, 0, 0)), (top, 0))
            self.same((value_after(bits, top, 0), value_after(bits, 0, 1)), (top - 1, 1))


class CountedTest(ExactTest):
    def test_plain_counters(self):
        self.same(counted((2, 1), (1, 1, 1, 0)), (2, 2))
        self.same(counted((1, 0), (1, 1, 1, 0)), (2, 0))
        self.same(counted((2, 0), (1, 1, 1, 1)), (2, 3))
        self.same(counted((4, 0), (1,) * 64), (8, 15))
        self.same(counted((4, 15), (0,) * 64), (8, 0))
        self.same(counted((4, 15), (1,) * 64), (0, 15))

    def test_no_outcomes(self):
        for counter in COUNTERS:
            self.same(counted(counter, ()), (0, counter[1]))

    def test_all_counters(self):
        for bits, first in COUNTERS:
            for outcomes in SHORT + large_sequences():
                expected = told_counted(bits, first, outcomes)
                with self.subTest(bits=bits, first=first, outcomes=outcomes):
                    self.same(counted((bits, first), outcomes), expected)

    def test_arguments_by_name(self):
        self.same(counted(outcomes=(1, 1, 1, 0), counter=(2, 1)), (2, 2))


class ValueMapTest(ExactTest):
    def test_plain_maps(self):
        self.same(value_map(2, (0, 1)), (1, 1, 2, 3))
        self.same(value_map(2, (1, 0)), (0, 1, 2, 2))
        self.same(value_map(1, (0, 1)), (1, 1))
        self.same(value_map(4, (1,)), tuple(range(1, 16)) + (15,))
        self.same(value_map(4, (0,) * 64), (0,) * 16)
        self.same(value_map(outcomes=(0, 1), bits=2), (1, 1, 2, 3))

    def test_no_outcomes(self):
        for bits in (1, 2, 3, 4):
            self.same(value_map(bits, ()), tuple(range(2 ** bits)))

    def test_all_maps(self):
        for bits in (1, 2, 3, 4):
            for outcomes in SOME:
                expected = tuple(told_counted(bits, first, outcomes)[1] for first in range(2 ** bits))
                with self.subTest(bits=bits, outcomes=outcomes):
                    self.same(value_map(bits, outcomes), expected)
                    # Guarantee (c): the end value never falls if the first value is greater.
                    self.assertEqual(list(expected), sorted(expected))


class FixedValuesTest(ExactTest):
    def test_plain_sequences(self):
        self.same(fixed_values(2, (0, 1)), (1, 2, 3))
        self.same(fixed_values(2, (1, 0)), (0, 1, 2))
        self.same(fixed_values(1, (0, 1)), (1,))
        self.same(fixed_values(3, (1,)), (7,))
        self.same(fixed_values(4, (0,) * 64), (0,))
        self.same(fixed_values(2, (1, 1, 0)), (2,))
        self.same(fixed_values(2, (1, 1, 1, 0)), (2,))
        self.same(fixed_values(outcomes=(0, 1), bits=2), (1, 2, 3))

    def test_no_outcomes(self):
        for bits in (1, 2, 3, 4):
            self.same(fixed_values(bits, ()), tuple(range(2 ** bits)))

    def test_all_sequences(self):
        for bits in (1, 2, 3, 4):
            for outcomes in SOME:
                fixed = [first for first in range(2 ** bits) if told_counted(bits, first, outcomes)[1] == first]
                with self.subTest(bits=bits, outcomes=outcomes):
                    self.same(fixed_values(bits, outcomes), tuple(fixed))
                    self.assertGreater(len(fixed), 0)


class SettledTest(ExactTest):
    def test_plain_sequences(self):
        self.same([settled_errors((2, first), (0, 1)) for first in range(4)], [1, 1, 2, 1])
        self.same([settled_value((2, first), (0, 1)) for first in range(4)], [1, 1, 2, 3])
        self.same(settled_value((4, 0), (1, 1, 0)), 14)
        self.same(settled_errors((4, 0), (1, 1, 0)), 1)
        self.same((settled_value((4, 0), (1,)), settled_errors((4, 0), (1,))), (15, 0))
        self.same((settled_value((4, 15), (0,)), settled_errors((4, 15), (0,))), (0, 0))
        self.same(settled_value(outcomes=(0, 1), counter=(2, 0)), 1)
        self.same(settled_errors(outcomes=(0, 1), counter=(2, 2)), 2)

    def test_no_outcomes(self):
        for counter in COUNTERS:
            self.same(settled_value(counter, ()), counter[1])
            self.same(settled_errors(counter, ()), 0)

    def test_all_counters(self):
        for counter in COUNTERS:
            for outcomes in SOME:
                errors, value, later = told_settled(counter, outcomes)
                with self.subTest(counter=counter, outcomes=outcomes):
                    # Guarantee (c): this late, the value and the errors of each repetition are the same.
                    self.assertEqual(later, (errors, value))
                    self.same(settled_value(counter, outcomes), value)
                    self.same(settled_errors(counter, outcomes), errors)
                    self.assertIn(value, fixed_values(counter[0], outcomes))

    def test_both_ends_with_longer_sequences(self):
        for counter in ENDS:
            for outcomes in SHORT:
                errors, value, _ = told_settled(counter, outcomes)
                self.same((settled_errors(counter, outcomes), settled_value(counter, outcomes)), (errors, value))


class ChangesTest(ExactTest):
    def test_plain_sequences(self):
        self.same([changes(outcomes) for outcomes in ((0, 1), (1, 1, 1, 0), (1, 0, 1), (0, 1, 0, 1))], [2, 2, 2, 4])
        self.same([changes(outcomes) for outcomes in ((), (0,), (1,), (0, 0), (1,) * 64, (0, 1) * 32)], [0] * 5 + [64])
        self.same(changes(outcomes=(1, 0, 0)), 2)

    def test_all_sequences(self):
        for outcomes in SHORT + large_sequences():
            size = len(outcomes)
            expected = len([at for at in range(size) if outcomes[at] != outcomes[(at + 1) % size]])
            with self.subTest(outcomes=outcomes):
                self.same(changes(outcomes), expected)

    def test_what_the_document_says_of_settled_errors(self):
        for outcomes in SOME:
            with self.subTest(outcomes=outcomes):
                self.same([settled_errors((1, first), outcomes) for first in (0, 1)], [changes(outcomes)] * 2)
                for counter in COUNTERS:
                    self.assertGreaterEqual(2 * settled_errors(counter, outcomes), changes(outcomes))


class SomewhatBeyondTest(ExactTest):
    """The interface: no error for what is somewhat beyond a limit."""

    def test_more_bits_and_more_outcomes(self):
        self.same([predicted(5, value) for value in (0, 15, 16, 31)], [0, 0, 1, 1])
        self.same(settled_value((5, 0), (1, 1, 0)), 30)
        self.same(counted((2, 0), (1,) * 70), (2, 3))
        self.same(value_map(0, (1, 0)), (0,))

    def test_values_beyond_those_of_the_counter(self):
        self.same(settled_value((2, 5), (0, 1)), 3)
        self.same(settled_value((2, -2), (1, 0)), 0)


if __name__ == "__main__":
    unittest.main()
