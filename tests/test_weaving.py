"""woven and rounds_in."""

import itertools
import unittest

from pastenough.errors import PastError, TooLong, TooManyBranches
from pastenough.traces import is_trace
from pastenough.weaving import rounds_in, woven
from tests.samples import LOOP, PAIR, TRACES, ExactTest, random_traces

SOME_TRACES = TRACES + tuple(random_traces(23, 12))


def told_woven(one, other):
    """(pairs, rounds of one, rounds of the other): both walked pair by pair until both are at their first pair."""
    shift = max(branch for branch, _ in one) + 1
    pairs = []
    moment = 0
    while moment == 0 or moment % len(one) or moment % len(other):
        pairs.append(one[moment % len(one)])
        branch, outcome = other[moment % len(other)]
        pairs.append((branch + shift, outcome))
        moment += 1
    return (tuple(pairs), moment // len(one), moment // len(other))


class WovenTest(ExactTest):
    def refused(self, kind, limit, one, other):
        with self.subTest(one=one, other=other):
            with self.assertRaises(PastError) as caught:
                woven(one, other)
            self.assertIs(type(caught.exception), kind)
            self.same(caught.exception.limit, limit)
            with self.assertRaises(kind):
                woven(other=other, one=one)

    def test_plain_traces(self):
        self.same(woven(((0, 1), (0, 0)), ((0, 1),)), ((0, 1), (1, 1), (0, 0), (1, 1)))
        self.same(woven(((0, 1),), ((0, 1), (0, 0))), ((0, 1), (1, 1), (0, 1), (1, 0)))
        self.same(woven(((0, 1),), ((0, 0),)), ((0, 1), (1, 0)))
        self.same(woven(((3, 1),), ((2, 0),)), ((3, 1), (6, 0)))
        self.same(woven(PAIR, ((0, 1), (1, 1))), (
            (0, 1), (2, 1), (1, 1), (3, 1), (0, 0), (2, 1), (1, 0), (3, 1),
        ))
        self.same(woven(((2, 0), (0, 1)), ((1, 1), (0, 0), (4, 0))), (
            (2, 0), (4, 1), (0, 1), (3, 0), (2, 0), (7, 0), (0, 1), (4, 1), (2, 0), (3, 0), (0, 1), (7, 0),
        ))

    def test_the_sizes_need_not_divide_each_other(self):
        one = tuple((0, place % 2) for place in range(4))
        other = tuple((1, int(place == 0)) for place in range(6))
        given = woven(one, other)
        self.same(given, told_woven(one, other)[0])
        self.assertEqual(len(given), 24)

    def test_sixty_four_pairs_and_one_more(self):
        for size, other_size in ((32, 32), (32, 1), (1, 32), (16, 32), (32, 16), (31, 31), (5, 6), (31, 1)):
            one, other = ((0, 1),) * size, ((0, 0),) * other_size
            given = woven(one, other)
            self.assertLessEqual(len(given), 64)
            self.same(given, told_woven(one, other)[0])
            self.assertTrue(is_trace(given))
        for size, other_size in ((33, 33), (33, 1), (1, 33), (3, 11), (64, 64), (64, 1), (1, 64), (64, 63), (9, 8)):
            self.refused(TooLong, 64, ((0, 1),) * size, ((0, 0),) * other_size)

    def test_branch_seven_and_one_more(self):
        for last, other_last in ((0, 6), (6, 0), (3, 3), (2, 4), (5, 1)):
            one, other = ((last, 1), (0, 0)), ((0, 0), (other_last, 1))
            given = woven(one, other)
            self.same(given, told_woven(one, other)[0])
            self.same(max(branch for branch, _ in given), 7)
            self.refused(TooManyBranches, 8, ((last + 1, 1),), ((0, 1), (other_last, 0)))
            self.refused(TooManyBranches, 8, ((0, 1), (last, 1)), ((other_last + 1, 0),))
        self.refused(TooManyBranches, 8, ((7, 1),), ((0, 1),))
        self.refused(TooManyBranches, 8, ((0, 1),), ((7, 1),))
        self.refused(TooManyBranches, 8, ((7, 1),) * 32, ((7, 1),) * 32)

    def test_both_at_once(self):
        self.refused(TooLong, 64, ((7, 1),) * 33, ((0, 1),))
        self.refused(TooLong, 64, ((0, 1),), ((7, 1),) * 33)
        self.refused(TooLong, 64, ((7, 1),) * 64, ((7, 1),) * 64)
        self.refused(TooManyBranches, 8, ((7, 1),) * 32, ((0, 1),))

    def test_all_traces(self):
        for one, other in itertools.product(SOME_TRACES, repeat=2):
            pairs, rounds, other_rounds = told_woven(one, other)
            with self.subTest(one=one, other=other):
                self.same(rounds_in(one, other), (rounds, other_rounds))
                if len(pairs) > 64:
                    self.refused(TooLong, 64, one, other)
                elif max(branch for branch, _ in pairs) > 7:
                    self.refused(TooManyBranches, 8, one, other)
                else:
                    self.same(woven(one, other), pairs)

    def test_all_sizes(self):
        for size in range(1, 33):
            for other_size in range(1, 33):
                one = tuple((place % 3, place // 2 % 2) for place in range(size))
                other = tuple((place % 2, place // 5 % 2) for place in range(other_size))
                pairs = told_woven(one, other)[0]
                if len(pairs) > 64:
                    self.refused(TooLong, 64, one, other)
                else:
                    self.same(woven(one, other), pairs)

    def test_a_woven_trace_may_be_woven_again(self):
        both = woven(((0, 1),), ((0, 0),))
        self.same(woven(both, ((0, 1),)), ((0, 1), (2, 1), (1, 0), (2, 1)))

    def test_arguments_by_name(self):
        self.same(woven(other=((0, 1),), one=((0, 1), (0, 0))), ((0, 1), (1, 1), (0, 0), (1, 1)))


class RoundsInTest(ExactTest):
    def test_plain_rounds(self):
        self.same(rounds_in(((0, 1), (0, 0)), ((0, 1),)), (1, 2))
        self.same(rounds_in(((0, 1),), ((0, 1), (0, 0))), (2, 1))
        self.same(rounds_in(LOOP, PAIR), (1, 1))
        self.same(rounds_in(((0, 1),) * 4, ((0, 1),) * 6), (3, 2))
        self.same(rounds_in(((0, 1),), ((7, 1),)), (1, 1))

    def test_whatever_the_length_of_the_woven_trace(self):
        self.same(rounds_in(((0, 1),) * 64, ((7, 1),) * 63), (63, 64))
        self.same(rounds_in(((7, 1),) * 64, ((7, 1),) * 64), (1, 1))
        self.same(rounds_in(((7, 1),) * 33, ((0, 1),)), (1, 33))
        self.same(rounds_in(((0, 1),) * 48, ((0, 1),) * 64), (4, 3))
        self.same(rounds_in(other=((0, 1),) * 64, one=((0, 1),) * 61), (64, 61))

    def test_all_sizes(self):
        for size in range(1, 65):
            for other_size in range(1, 65):
                rounds, other_rounds = rounds_in(((0, 1),) * size, ((1, 0),) * other_size)
                self.assertEqual(rounds * size, other_rounds * other_size)
                least = next(many for many in itertools.count(1) if many * size % other_size == 0)
                self.same(rounds, least)


class SomewhatBeyondTest(ExactTest):
    def test_more(self):
        self.same(rounds_in(((0, 1),) * 65, ((0, 1),) * 66), (66, 65))
        with self.assertRaises(TooLong):
            woven(((0, 1),) * 65, ((0, 1),))


if __name__ == "__main__":
    unittest.main()
