"""meetings, harmful and least_bits."""

import itertools
import unittest

from pastenough.folding import harmful, least_bits, meetings
from tests.model import told_clashes, told_steady_cells
from tests.samples import LOOP, PAIR, TRACES, ExactTest, random_traces

SOME_TRACES = TRACES + tuple(random_traces(22, 12))
EIGHT = TRACES[9]
LENGTHS = (0, 1, 2, 5, 16, 17, 63, 64)
BITS = (0, 1, 2, 3, 8, 15, 16)


def told_meetings(trace, length, bits):
    folded = told_steady_cells(trace, ("folded", length, bits))
    split = told_steady_cells(trace, ("split", length))
    pairs = itertools.combinations(range(len(trace)), 2)
    return tuple((one, other) for one, other in pairs if folded[one] == folded[other] and split[one] != split[other])


def told_least_bits(trace, length):
    sure = [bits for bits in range(17) if not told_clashes(trace, ("folded", length, bits))]
    return min(sure, default=None)


class MeetingsTest(ExactTest):
    def check(self, trace, length, bits):
        with self.subTest(trace=trace, length=length, bits=bits):
            expected = told_meetings(trace, length, bits)
            self.same(meetings(trace, length, bits), expected)
            unlike = tuple((one, other) for one, other in expected if trace[one][1] != trace[other][1])
            self.same(harmful(trace, length, bits), unlike)

    def test_plain_meetings(self):
        self.same(meetings(PAIR, 1, 1), ((0, 1), (2, 3)))
        self.same(harmful(PAIR, 1, 1), ())
        self.same(harmful(PAIR, 2, 1), ((0, 2), (0, 3), (1, 2), (1, 3)))
        self.same(meetings(PAIR, 0, 0), ((0, 1), (0, 3), (1, 2), (2, 3)))
        self.same(harmful(PAIR, 0, 0), ((0, 3), (1, 2)))
        self.same(meetings(LOOP, 2, 0), ((0, 1), (0, 2), (0, 3), (1, 2), (1, 3)))

    def test_positions_with_one_cell_of_split_do_not_meet(self):
        self.same(meetings(LOOP, 0, 0), ())
        self.same(harmful(LOOP, 0, 0), ())
        self.same(meetings(LOOP, 2, 16), ())
        self.same(meetings(((4, 1),) + ((4, 0),) * 63, 0, 3), ())

    def test_one_pair(self):
        for trace in (((0, 0),), ((7, 1),)):
            for length in LENGTHS:
                for bits in BITS:
                    self.same(meetings(trace, length, bits), ())
                    self.same(harmful(trace, length, bits), ())

    def test_eight_branches(self):
        everywhere = tuple(itertools.combinations(range(8), 2))
        self.same(meetings(EIGHT, 0, 0), everywhere)
        self.same(harmful(EIGHT, 0, 0), tuple(pair for pair in everywhere if sum(pair) % 2 == 1))
        self.same(meetings(EIGHT, 0, 3), ())
        self.same(meetings(EIGHT, 0, 1), tuple(pair for pair in everywhere if sum(pair) % 2 == 0))

    def test_sixty_four_pairs_of_one_branch_and_of_eight(self):
        one = tuple((5, place // 7 % 2) for place in range(64))
        eight = tuple((place % 8, place // 7 % 2) for place in range(64))
        for trace in (one, eight):
            for length in LENGTHS:
                for bits in BITS:
                    self.check(trace, length, bits)

    def test_all_traces(self):
        for trace in SOME_TRACES:
            for length in LENGTHS:
                for bits in (0, 1, 3, 16):
                    self.check(trace, length, bits)

    def test_arguments_by_name(self):
        self.same(meetings(bits=1, length=1, trace=PAIR), ((0, 1), (2, 3)))
        self.same(harmful(bits=1, length=2, trace=PAIR), ((0, 2), (0, 3), (1, 2), (1, 3)))


class LeastBitsTest(ExactTest):
    def test_plain_traces(self):
        self.same([least_bits(PAIR, length) for length in (1, 2)], [1, 2])
        self.same([least_bits(LOOP, length) for length in (0, 1, 2)], [None, None, None])
        self.same(least_bits(LOOP, 3), told_least_bits(LOOP, 3))

    def test_nothing_to_tell_apart(self):
        for trace in (((0, 0),), ((7, 1),), ((3, 0),) * 64, ((0, 1), (7, 1))):
            for length in LENGTHS:
                self.same(least_bits(trace, length), 0)

    def test_branches_only(self):
        self.same(least_bits(EIGHT, 0), 1)
        self.same(least_bits(((0, 0), (2, 1)), 0), 2)
        self.same(least_bits(((0, 0), (4, 1)), 0), 3)

    def test_no_bits_are_enough(self):
        self.same(least_bits(((4, 1),) + ((4, 0),) * 63, 62), None)
        self.same(least_bits(((0, 0), (0, 1)), 0), None)

    def test_more_bits_may_disturb_again(self):
        told = {}
        for trace in SOME_TRACES:
            for length in (3, 5, 8):
                sure = [not told_clashes(trace, ("folded", length, bits)) for bits in range(17)]
                if True in sure:
                    told[False in sure[sure.index(True):]] = True
                    self.same(least_bits(trace, length), sure.index(True))
        self.assertEqual(set(told), {True, False})

    def test_all_traces(self):
        for trace in SOME_TRACES:
            for length in LENGTHS:
                with self.subTest(trace=trace, length=length):
                    self.same(least_bits(trace, length), told_least_bits(trace, length))

    def test_sixteen_bits_may_be_needed(self):
        trace = ((5, 0),) * 17 + ((5, 1), (5, 1), (5, 0))
        self.same(told_least_bits(trace, 64), 16)
        self.same(least_bits(trace, 64), 16)

    def test_more_than_sixteen_bits_are_not_tried(self):
        trace = ((5, 0),) * 17 + ((5, 1), (5, 0))
        self.same(told_clashes(trace, ("folded", 40, 17)), [])
        self.same(told_least_bits(trace, 40), None)
        self.same(least_bits(trace, 40), None)

    def test_arguments_by_name(self):
        self.same(least_bits(length=2, trace=PAIR), 2)


class SomewhatBeyondTest(ExactTest):
    """The interface: no error for what is somewhat beyond a limit."""

    def test_more_and_less(self):
        self.same(meetings(PAIR, 65, 17), told_meetings(PAIR, 65, 17))
        self.same(harmful(PAIR, 65, 17), ())
        self.same(least_bits(PAIR, 65), told_least_bits(PAIR, 65))
        self.same(meetings(PAIR, -1, -1), meetings(PAIR, 0, 0))


if __name__ == "__main__":
    unittest.main()
