"""Guarantees (f) and (g), its first sentence, beside plain looks at all patterns, all closed walks and all cells."""

import itertools
import unittest

from pastenough.folding import harmful, least_bits, meetings
from pastenough.lengths import reach
from pastenough.patterns import count_patterns, full_count, full_pattern, patterns
from pastenough.traces import root_of
from pastenough.ways import is_way, pattern_of, way_of, ways_count
from tests.model import told_reach, told_steady, told_walks
from tests.samples import ExactTest

MOST_OUTCOMES = 9
REACHES = {
    pattern: told_reach(pattern)
    for outcomes in range(1, MOST_OUTCOMES + 1)
    for pattern in itertools.product((0, 1), repeat=outcomes)
}


def shared_trace(pattern):
    return tuple((0, outcome) for outcome in pattern)


class PatternsAndWaysTest(ExactTest):
    """Guarantee (f)."""

    def test_a_pattern_has_this_reach_exactly_if_its_root_makes_a_way(self):
        for pattern, least in REACHES.items():
            root = root_of(pattern)
            for length in range(1, MOST_OUTCOMES + 2):
                histories = told_steady(shared_trace(root), ("shared", length))
                self.assertIs(is_way(length, histories), least <= length, (pattern, length))
                if least <= length:
                    self.assertEqual(way_of(pattern, length), histories)

    def test_the_counts_of_all_patterns(self):
        for outcomes in range(1, MOST_OUTCOMES + 1):
            for length in range(MOST_OUTCOMES + 2):
                some = [pattern for pattern in REACHES if len(pattern) == outcomes]
                just = [pattern for pattern in some if REACHES[pattern] == length]
                self.same(list(patterns(outcomes, length)), just)
                self.same(count_patterns(outcomes, length), sum(REACHES[pattern] <= length for pattern in some))

    def test_the_counts_of_all_closed_walks(self):
        for length, most in ((1, 14), (2, 14), (3, 14), (4, 14), (5, 11), (6, 9)):
            ways = told_walks(length, most)
            for nodes in range(1, most + 1):
                self.same(ways_count(length, nodes), len([way for way in ways if len(way) == nodes]))
            for way in ways[::7]:
                self.assertTrue(is_way(length, way))
                self.assertLessEqual(reach(pattern_of(way)), length)

    def test_each_way_makes_as_many_patterns_as_it_has_nodes(self):
        for outcomes in range(1, 15):
            sizes = [size for size in range(1, outcomes + 1) if outcomes % size == 0]
            for length in (1, 2, 3, 4, 9, 64):
                turned = sum(size * ways_count(length, size) for size in sizes)
                self.same(count_patterns(outcomes, length), turned)

    def test_full_patterns_make_ways_through_all_nodes(self):
        for length in range(1, 7):
            way = way_of(full_pattern(length), length)
            self.assertEqual(sorted(way), ["".join(digits) for digits in itertools.product("01", repeat=length)])

    def test_the_full_ways(self):
        for length in (1, 2, 3, 4):
            ways = told_walks(length, 2 ** length)
            self.same(full_count(length), len([way for way in ways if len(way) == 2 ** length]))


def plain_cell(trace, length, bits, position):
    """The folded steady cell of a position: each digit from the ones of the history and of the branch on its place."""
    ones = [place for place in range(3) if trace[position][0] & (1 << place) and place < bits]
    for back in range(1, length + 1):
        if trace[(position - back) % len(trace)][1] == 1 and bits > 0:
            ones.append((back - 1) % bits)
    return tuple(ones.count(place) % 2 for place in range(bits))


def plain_split(trace, length, position):
    """The branch of a position, and the outcomes ahead of it, the newest one first."""
    return (trace[position][0], [trace[(position - back) % len(trace)][1] for back in range(1, length + 1)])


class FoldedTest(ExactTest):
    """Guarantee (g), its first sentence."""

    def check(self, trace, length, some_bits):
        pairs = list(itertools.combinations(range(len(trace)), 2))
        split = [plain_split(trace, length, position) for position in range(len(trace))]
        for bits in some_bits:
            cells = [plain_cell(trace, length, bits, position) for position in range(len(trace))]
            alike = [(one, other) for one, other in pairs if cells[one] == cells[other]]
            met = [(one, other) for one, other in alike if split[one] != split[other]]
            unlike = [(one, other) for one, other in alike if trace[one][1] != trace[other][1]]
            with self.subTest(trace=trace, length=length, bits=bits):
                self.same(meetings(trace, length, bits), tuple(met))
                self.same(harmful(trace, length, bits), tuple(pair for pair in met if pair in unlike))
                least = least_bits(trace, length)
                self.assertTrue(unlike if least is None or bits < least else bits > least or not unlike)

    def test_small_traces(self):
        pairs = list(itertools.product((0, 3, 6), (0, 1)))
        for size in (1, 2, 3):
            for trace in itertools.product(pairs, repeat=size):
                for length in (0, 1, 2, 3):
                    self.check(trace, length, (0, 1, 2, 3, 16))

    def test_large_traces(self):
        one = tuple((6, int(place % 5 == 0 or place > 57)) for place in range(64))
        eight = tuple((place * 3 % 8, int(place % 7 == 0)) for place in range(64))
        for trace in (one, eight):
            for length in (0, 1, 4, 17, 64):
                self.check(trace, length, range(17))


if __name__ == "__main__":
    unittest.main()
