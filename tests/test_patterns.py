"""count_patterns, patterns, primitive_count, full_pattern and full_count."""

import itertools
import types
import unittest

from pastenough.lengths import reach
from pastenough.patterns import count_patterns, full_count, full_pattern, patterns, primitive_count
from pastenough.traces import root_of
from tests.model import told_reach
from tests.samples import ExactTest

LENGTHS = (0, 1, 2, 3, 4, 5, 6, 7, 8, 9, 12, 13, 14, 63, 64)


def told_primitive(pattern):
    """Whether a pattern is no repetition of a part of it, from all its parts."""
    sizes = range(1, len(pattern))
    return not any(pattern == (pattern[:size] * len(pattern))[:len(pattern)] for size in sizes if not len(pattern) % size)


def all_patterns(outcomes):
    return list(itertools.product((0, 1), repeat=outcomes))


def told_turns(pattern):
    return {pattern[at:] + pattern[:at] for at in range(len(pattern))}


class CountPatternsTest(ExactTest):
    def test_plain_counts(self):
        self.same([count_patterns(4, length) for length in range(4)], [2, 4, 8, 16])
        self.same([count_patterns(3, length) for length in range(4)], [2, 2, 8, 8])
        self.same([count_patterns(2, length) for length in range(3)], [2, 4, 4])

    def test_one_outcome(self):
        self.same([count_patterns(1, length) for length in LENGTHS], [2] * len(LENGTHS))

    def test_fourteen_outcomes(self):
        self.same([count_patterns(14, length) for length in (0, 1, 2, 3)], [2, 4, 4, 32])
        self.same([count_patterns(14, length) for length in (12, 13, 14, 63, 64)], [16300, 16384, 16384, 16384, 16384])

    def test_all_short_patterns(self):
        for outcomes in range(1, 10):
            reaches = [told_reach(pattern) for pattern in all_patterns(outcomes)]
            for length in LENGTHS:
                with self.subTest(outcomes=outcomes, length=length):
                    self.same(count_patterns(outcomes, length), len([least for least in reaches if least <= length]))

    def test_it_counts_what_patterns_gives(self):
        for outcomes in (10, 11, 12, 13, 14):
            counted = 0
            for length in range(outcomes):
                counted += len(list(patterns(outcomes, length)))
                self.same(count_patterns(outcomes, length), counted)
            self.same(counted, 2 ** outcomes)

    def test_arguments_by_name(self):
        self.same(count_patterns(length=2, outcomes=4), 8)
        self.same(count_patterns(4, length=1), 4)


class PatternsTest(ExactTest):
    def test_plain_patterns(self):
        self.same(list(patterns(3, 0)), [(0, 0, 0), (1, 1, 1)])
        self.same(list(patterns(3, 1)), [])
        self.same(list(patterns(3, 2)), [(0, 0, 1), (0, 1, 0), (0, 1, 1), (1, 0, 0), (1, 0, 1), (1, 1, 0)])
        self.same(list(patterns(4, 1)), [(0, 1, 0, 1), (1, 0, 1, 0)])
        self.same(list(patterns(4, 2)), [(0, 0, 1, 1), (0, 1, 1, 0), (1, 0, 0, 1), (1, 1, 0, 0)])

    def test_one_outcome(self):
        self.same(list(patterns(1, 0)), [(0,), (1,)])
        for length in LENGTHS[1:]:
            self.same(list(patterns(1, length)), [])

    def test_all_short_patterns(self):
        for outcomes in range(1, 10):
            reaches = [(pattern, told_reach(pattern)) for pattern in all_patterns(outcomes)]
            for length in LENGTHS:
                with self.subTest(outcomes=outcomes, length=length):
                    expected = [pattern for pattern, least in reaches if least == length]
                    self.same(list(patterns(outcomes, length)), expected)

    def test_fourteen_outcomes(self):
        self.same(list(patterns(14, 0)), [(0,) * 14, (1,) * 14])
        self.same(list(patterns(14, 1)), [(0, 1) * 7, (1, 0) * 7])
        self.same(list(patterns(14, 2)), [])
        last = list(patterns(14, 13))
        self.assertEqual(len(last), 84)
        self.assertEqual(last, sorted(last))
        self.same([reach(pattern) for pattern in last], [13] * 84)
        for length in (14, 15, 63, 64):
            self.same(list(patterns(14, length)), [])

    def test_some_of_the_patterns_of_fourteen_outcomes_have_just_this_reach(self):
        for length in (3, 6, 9, 12):
            given = list(patterns(14, length))
            self.assertEqual(given, sorted(set(given)))
            for pattern in given[::97]:
                self.same(len(pattern), 14)
                self.same(told_reach(pattern), length)

    def test_it_is_a_generator(self):
        self.assertIsInstance(patterns(14, 13), types.GeneratorType)
        self.assertIsInstance(patterns(1, 64), types.GeneratorType)

    def test_walked_twice(self):
        walk = patterns(4, 1)
        self.same(list(walk), [(0, 1, 0, 1), (1, 0, 1, 0)])
        self.same(list(walk), [])
        self.same(list(patterns(4, 1)), [(0, 1, 0, 1), (1, 0, 1, 0)])

    def test_left_early(self):
        told = list(patterns(5, 3))
        left = patterns(5, 3)
        self.same([next(left), next(left)], told[:2])
        self.same(list(patterns(5, 3)), told)
        self.same(next(left), told[2])
        left.close()
        self.same(list(left), [])
        self.same(list(patterns(5, 3)), told)

    def test_two_at_once(self):
        both = list(zip(patterns(3, 2), patterns(4, 1)))
        self.same(both, [((0, 0, 1), (0, 1, 0, 1)), ((0, 1, 0), (1, 0, 1, 0))])

    def test_arguments_by_name(self):
        self.same(list(patterns(length=0, outcomes=2)), [(0, 0), (1, 1)])


class PrimitiveCountTest(ExactTest):
    def test_plain_counts(self):
        self.same([primitive_count(number) for number in (1, 2, 3, 4, 5, 6)], [2, 2, 6, 12, 30, 54])
        self.same(primitive_count(64), 2 ** 64 - 2 ** 32)
        self.same(primitive_count(63), 2 ** 63 - 2 ** 21 - 2 ** 9 + 2 ** 3)
        self.same(primitive_count(61), 2 ** 61 - 2)
        self.same(primitive_count(number=60), 2 ** 60 - 2 ** 30 - 2 ** 20 - 2 ** 12 + 2 ** 10 + 2 ** 6 + 2 ** 4 - 2 ** 2)

    def test_all_short_patterns(self):
        for number in range(1, 13):
            told = [pattern for pattern in all_patterns(number) if told_primitive(pattern)]
            self.same(primitive_count(number), len(told))

    def test_all_patterns_repeat_just_one_primitive_pattern(self):
        for number in range(1, 65):
            sizes = [size for size in range(1, number + 1) if number % size == 0]
            self.same(sum(primitive_count(size) for size in sizes), 2 ** number)


class FullPatternTest(ExactTest):
    def test_one_and_two(self):
        self.assertIn(full_pattern(1), ((0, 1), (1, 0)))
        self.assertIn(full_pattern(2), told_turns((0, 0, 1, 1)))

    def test_all_lengths(self):
        for length in range(1, 7):
            pattern = full_pattern(length)
            with self.subTest(length=length):
                self.assertIs(type(pattern), tuple)
                self.assertEqual({type(outcome) for outcome in pattern}, {int})
                self.assertEqual(len(pattern), 2 ** length)
                self.assertTrue(told_primitive(pattern))
                self.same(root_of(pattern), pattern)
                self.same(told_reach(pattern), length)
                self.same(reach(pattern), length)
                self.same(full_pattern(length=length), pattern)

    def test_no_primitive_pattern_with_this_reach_is_longer(self):
        for length in (1, 2, 3):
            for outcomes in range(2 ** length + 1, 13):
                longer = [pattern for pattern in patterns(outcomes, length) if told_primitive(pattern)]
                self.same(longer, [])


class FullCountTest(ExactTest):
    def test_plain_counts(self):
        self.same([full_count(length) for length in (1, 2, 3, 4, 5)], [1, 1, 2, 16, 2048])
        self.same([full_count(length) for length in (6, 7, 8)], [67108864, 144115188075855872, 2 ** 120])
        self.same([full_count(length) for length in (9, 10)], [2 ** 247, 2 ** 502])
        self.same(full_count(length=3), 2)

    def test_all_short_patterns(self):
        for length in (1, 2, 3, 4):
            size = 2 ** length
            found = set()
            for pattern in all_patterns(size):
                round_and_round = pattern + pattern
                if len({round_and_round[at:at + length] for at in range(size)}) == size:
                    found.add(min(told_turns(pattern)))
            self.same(full_count(length), len(found))

    def test_the_closed_walks_along_all_edges(self):
        # The histories that are 1 shorter are nodes, those of this length are edges: the number of closed walks along
        # all edges is that of the trees that lead to one node (each node has one way to go that is not told by them).
        for length in (3, 4, 5, 6, 7):
            self.same(full_count(length), trees_to_zero(2 ** (length - 1)))


def trees_to_zero(nodes):
    """The number of trees of edges (from k to 2 k and 2 k + 1, modulo nodes) that lead from all nodes to 0."""
    rows = [[0] * nodes for _ in range(nodes)]
    for node in range(nodes):
        for follower in (2 * node % nodes, (2 * node + 1) % nodes):
            rows[node][node] += 1
            rows[node][follower] -= 1
    return determinant([row[1:] for row in rows[1:]])


def determinant(rows):
    """The determinant of a square of integers, by Bareiss's steps."""
    sign, before = 1, 1
    for at in range(len(rows) - 1):
        if rows[at][at] == 0:
            other = next((row for row in range(at + 1, len(rows)) if rows[row][at] != 0), None)
            if other is None:
                return 0
            rows[at], rows[other] = rows[other], rows[at]
            sign = -sign
        for row in range(at + 1, len(rows)):
            for place in range(at + 1, len(rows)):
                whole = rows[row][place] * rows[at][at] - rows[row][at] * rows[at][place]
                rows[row][place] = whole // before
        before = rows[at][at]
    return sign * rows[-1][-1]


class SomewhatBeyondTest(ExactTest):
    """The interface: no error for what is somewhat beyond a limit."""

    def test_more(self):
        self.same([count_patterns(15, length) for length in (0, 1, 65)], [2, 2, 2 ** 15])
        self.same(list(patterns(15, 1)), [])
        self.same(primitive_count(65), 2 ** 65 - 2 ** 13 - 2 ** 5 + 2)
        self.same(full_count(11), 2 ** (1024 - 11))
        pattern = full_pattern(7)
        self.same(len(pattern), 128)
        self.same(reach(pattern), 7)

    def test_less(self):
        self.same([count_patterns(3, -1), count_patterns(0, 2), count_patterns(-1, 2)], [0, 0, 0])
        self.same(list(patterns(3, -1)) + list(patterns(0, 0)) + list(patterns(-1, 0)), [])
        self.assertIn(full_pattern(0), ((0,), (1,)))
        self.same(full_count(0), 2)
        for number in (0, -1):
            self.assertIsInstance(primitive_count(number), int)
        self.assertIsInstance(full_pattern(-1), tuple)
        self.assertIsInstance(full_count(-1), int)


if __name__ == "__main__":
    unittest.main()
