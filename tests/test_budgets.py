"""profile, shortest_within, cells_used, leanest and compared."""

import unittest

from pastenough.budgets import cells_used, compared, leanest, profile, shortest_within
from pastenough.far import steady_errors
from pastenough.fixed import fewest_errors
from tests.model import told_steady_cells
from tests.samples import LOOP, PAIR, TRACES, ExactTest, cases, random_traces, schemes_of

SOME_TRACES = TRACES + tuple(random_traces(20, 12))
SMALL_TRACES = tuple(trace for trace in SOME_TRACES if len(trace) <= 8)
PLAIN_WORDS = ("own", "split", "shared")
EIGHT = TRACES[9]
ONE_AMONG_64 = TRACES[12]
NEVER = ((0, 0), (0, 1), (1, 0))


class ProfileTest(ExactTest):
    def test_plain_profiles(self):
        self.same(profile(LOOP, "shared", 3), (1, 1, 1, 0))
        self.same(profile(PAIR, "shared", 4), (2, 2, 0, 0, 0))
        self.same(profile(PAIR, "own", 2), (2, 0, 0))
        self.same(profile(PAIR, "split", 1), (2, 0))
        self.same(profile(PAIR, "folded", 3, bits=1), (2, 0, 2, 2))
        self.same(profile(PAIR, "folded", 2, bits=2), (2, 0, 0))
        self.same(profile(PAIR, "folded", 2), (2, 2, 2))
        self.same(profile(LOOP, "shared", 0), (1,))
        self.same(profile(ONE_AMONG_64, "own", 64), (1,) * 63 + (0, 0))
        self.same(profile(((7, 1),), "folded", 64, bits=16), (0,) * 65)

    def test_all_traces(self):
        for trace in SOME_TRACES:
            for word in PLAIN_WORDS:
                expected = tuple(fewest_errors(trace, (word, length)) for length in range(7))
                self.same(profile(trace, word, 6), expected)
                self.same(profile(trace, word, 6, bits=5), expected)
            for bits in (0, 1, 5, 16):
                expected = tuple(fewest_errors(trace, ("folded", length, bits)) for length in range(7))
                self.same(profile(trace, "folded", 6, bits=bits), expected)

    def test_all_lengths(self):
        for trace in SMALL_TRACES[:6]:
            for longest in (0, 1, 63, 64):
                expected = tuple(fewest_errors(trace, ("shared", length)) for length in range(longest + 1))
                self.same(profile(trace, "shared", longest), expected)

    def test_arguments_by_name(self):
        self.same(profile(bits=1, longest=3, word="folded", trace=PAIR), (2, 0, 2, 2))

    def test_bits_by_name_only(self):
        with self.assertRaises(TypeError):
            profile(PAIR, "folded", 3, 1)


class ShortestWithinTest(ExactTest):
    def test_plain_lengths(self):
        self.same([shortest_within(LOOP, "shared", errors) for errors in range(4)], [3, 0, 0, 0])
        self.same([shortest_within(PAIR, "shared", errors) for errors in range(3)], [2, 2, 0])
        self.same([shortest_within(PAIR, word, 0) for word in PLAIN_WORDS], [1, 1, 2])
        self.same([shortest_within(PAIR, "folded", 0, bits=bits) for bits in (0, 1, 2, 16)], [None, 1, 1, 1])
        self.same([shortest_within(NEVER, "folded", errors, bits=1) for errors in (0, 1)], [None, 0])
        self.same(shortest_within(PAIR, "folded", 0), None)
        self.same(shortest_within(ONE_AMONG_64, "shared", 0), 63)
        self.same(shortest_within(LOOP, "own", 10 ** 18), 0)
        self.same([shortest_within(PAIR, word, 0, bits=16) for word in PLAIN_WORDS], [1, 1, 2])

    def test_all_traces(self):
        for trace in SMALL_TRACES:
            for word, bits in (("own", 0), ("split", 0), ("shared", 0), ("folded", 0), ("folded", 1), ("folded", 3)):
                found = profile(trace, word, 64, bits=bits)
                for errors in range(5):
                    with self.subTest(trace=trace, word=word, bits=bits, errors=errors):
                        enough = [length for length in range(65) if found[length] <= errors]
                        expected = enough[0] if enough else None
                        self.same(shortest_within(trace, word, errors, bits=bits), expected)

    def test_a_folded_table_may_need_64(self):
        branches = "044040440004400440400044444400400"
        trace = tuple((int(branch), int(at in (1, 11, 28))) for at, branch in enumerate(branches))
        self.same(shortest_within(trace, "folded", 0, bits=4), 64)
        self.same(profile(trace, "folded", 64, bits=4)[-2:], (fewest_errors(trace, ("folded", 63, 4)), 0))

    def test_arguments_by_name(self):
        self.same(shortest_within(bits=1, errors=0, word="folded", trace=PAIR), 1)

    def test_bits_by_name_only(self):
        with self.assertRaises(TypeError):
            shortest_within(PAIR, "folded", 0, 1)


class CellsUsedTest(ExactTest):
    def test_plain_schemes(self):
        self.same([cells_used(LOOP, ("shared", length)) for length in (0, 1, 2, 3, 4, 64)], [1, 2, 3, 4, 4, 4])
        self.same([cells_used(PAIR, (word, 0)) for word in PLAIN_WORDS], [2, 2, 1])
        self.same([cells_used(PAIR, ("folded", 1, bits)) for bits in (0, 1, 2)], [1, 2, 2])
        self.same([cells_used(EIGHT, (word, 0)) for word in PLAIN_WORDS], [8, 8, 1])
        self.same(cells_used(((7, 1),), ("own", 64)), 1)
        self.same(cells_used(ONE_AMONG_64, ("shared", 63)), 64)
        self.same(cells_used(scheme=("shared", 2), trace=LOOP), 3)

    def test_all_traces(self):
        for trace, scheme in cases(SOME_TRACES, (0, 1, 5, 64)):
            self.same(cells_used(trace, scheme), len(set(told_steady_cells(trace, scheme))))


def told_leanest(trace, most):
    """The least of all 195 plain schemes that are good enough."""
    found = []
    for word in PLAIN_WORDS:
        for length, errors in enumerate(profile(trace, word, 64)):
            if errors <= most:
                cells = len(set(told_steady_cells(trace, (word, length))))
                found.append((cells, length, PLAIN_WORDS.index(word)))
    cells, length, place = min(found)
    return (PLAIN_WORDS[place], length)


class LeanestTest(ExactTest):
    def test_plain_traces(self):
        self.same([leanest(PAIR, errors) for errors in (0, 1, 2, 3)], [("own", 1)] * 2 + [("shared", 0)] * 2)
        self.same([leanest(LOOP, errors) for errors in (0, 1)], [("own", 3), ("own", 0)])
        self.same(leanest(((7, 1),), 0), ("own", 0))
        self.same([leanest(EIGHT, errors) for errors in (0, 3, 4, 10 ** 18)], [("shared", 1)] * 2 + [("shared", 0)] * 2)
        self.same(leanest(ONE_AMONG_64, 0), ("own", 63))
        self.same(leanest(errors=2, trace=PAIR), ("shared", 0))

    def check(self, trace, cells, lengths, expected):
        """The cells and lengths are those of own, split and shared, each with the least length that is enough."""
        self.same(tuple(shortest_within(trace, word, 0) for word in PLAIN_WORDS), lengths)
        self.same(tuple(cells_used(trace, (word, length)) for word, length in zip(PLAIN_WORDS, lengths)), cells)
        self.same(leanest(trace, 0), expected)

    def test_the_fewest_cells_go_ahead_of_a_short_history(self):
        self.check(((0, 0), (1, 1), (2, 0), (3, 1)), (4, 4, 2), (0, 0, 1), ("shared", 1))

    def test_of_as_many_cells_the_least_length_goes_first(self):
        self.check(((0, 0), (1, 1)), (2, 2, 2), (0, 0, 1), ("own", 0))
        self.check(((0, 0), (0, 0), (1, 1), (1, 0), (1, 1)), (4, 4, 5), (2, 1, 4), ("split", 1))
        self.check(((0, 0), (0, 0), (0, 0), (1, 1), (0, 1)), (5, 5, 5), (3, 2, 3), ("split", 2))

    def test_of_as_many_cells_and_the_same_length_own_goes_first_then_split(self):
        self.check(((0, 0), (0, 0)), (1, 1, 1), (0, 0, 0), ("own", 0))
        self.check(((0, 0), (0, 0), (0, 1), (1, 0), (1, 1)), (5, 5, 5), (2, 2, 4), ("own", 2))

    def test_split_alone_has_the_fewest_cells(self):
        self.check(((0, 0), (0, 0), (0, 1), (0, 0), (1, 1)), (5, 4, 5), (3, 2, 4), ("split", 2))

    def test_all_traces(self):
        for trace in SMALL_TRACES:
            for errors in range(4):
                with self.subTest(trace=trace, errors=errors):
                    self.same(leanest(trace, errors), told_leanest(trace, errors))

    def test_large_traces(self):
        for trace in (TRACES[10], TRACES[14], TRACES[15]):
            for errors in (0, 3, 20):
                with self.subTest(trace=trace, errors=errors):
                    self.same(leanest(trace, errors), told_leanest(trace, errors))


class ComparedTest(ExactTest):
    def test_plain_schemes(self):
        self.same(compared(LOOP, (2, 1), ("shared", 0), ("shared", 3)), 1)
        self.same(compared(LOOP, (2, 1), ("shared", 3), ("shared", 0)), -1)
        self.same(compared(LOOP, (1, 0), ("shared", 0), ("shared", 3)), 2)
        self.same(compared(LOOP, (2, 1), ("shared", 0), ("own", 0)), 0)
        self.same(compared(PAIR, (4, 15), ("folded", 64, 0), ("folded", 1, 1)), 2)
        self.same(compared(other=("shared", 3), one=("shared", 0), counter=(2, 1), trace=LOOP), 1)

    def test_all_traces(self):
        for trace in SOME_TRACES:
            schemes = schemes_of(0) + schemes_of(1) + schemes_of(3)
            for one, other in zip(schemes, schemes[5:] + schemes[:5]):
                for counter in ((1, 0), (2, 2)):
                    expected = steady_errors(trace, one, counter) - steady_errors(trace, other, counter)
                    self.same(compared(trace, counter, one, other), expected)


class SomewhatBeyondTest(ExactTest):
    """The interface: no error for what is somewhat beyond a limit."""

    def test_more_and_less(self):
        self.same(len(profile(LOOP, "shared", 66)), 67)
        self.same(profile(LOOP, "shared", -1), ())
        self.same(shortest_within(LOOP, "shared", -1), None)
        self.same(leanest(LOOP, -1), None)
        self.same(leanest(((0, 0),) * 65 + ((0, 1),), 0), None)


if __name__ == "__main__":
    unittest.main()
