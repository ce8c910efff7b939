"""history_at, cell_at, steady_history, steady_cells and steady_from, beside the model."""

import unittest

from pastenough.histories import cell_at, history_at, steady_cells, steady_from, steady_history
from tests.model import told_cell, told_histories, told_rounds, told_steady, told_steady_from
from tests.samples import LOOP, PAIR, TRACES, ExactTest, cases, random_traces, schemes_of

SOME_TRACES = TRACES + tuple(random_traces(4, 24))
SMALL_TRACES = tuple(trace for trace in SOME_TRACES if len(trace) <= 8)
LENGTHS = (0, 1, 2, 3, 5, 17, 63, 64)
FAR = 10 ** 18


class HistoryAtTest(ExactTest):
    def test_plain_histories(self):
        self.same([history_at(LOOP, ("shared", 2), moment) for moment in range(5)], ["00", "01", "11", "11", "10"])
        self.same([history_at(PAIR, ("shared", 3), moment) for moment in range(5)], ["000", "001", "011", "110", "100"])
        self.same([history_at(PAIR, ("split", 1), moment) for moment in range(5)], ["0", "1", "1", "0", "0"])
        self.same([history_at(PAIR, ("own", 2), moment) for moment in range(6)], ["00", "00", "01", "01", "10", "10"])
        self.same([history_at(PAIR, ("folded", 2, 1), moment) for moment in range(5)], ["00", "01", "11", "10", "00"])

    def test_the_oldest_outcome_stands_first(self):
        trace = ((0, 1), (0, 0), (0, 0), (0, 0))
        self.same([history_at(trace, ("shared", 3), moment) for moment in range(1, 5)], ["001", "010", "100", "000"])

    def test_length_0(self):
        for word in ("own", "split", "shared"):
            for moment in (0, 1, 5, 64, FAR):
                self.same(history_at(PAIR, (word, 0), moment), "")
                self.same(history_at(PAIR, ("folded", 0, 3), moment), "")

    def test_zeros_ahead_of_the_moment_0(self):
        for length in (1, 2, 63, 64):
            for scheme in schemes_of(length):
                self.same(history_at(((3, 1),), scheme, 0), "0" * length)
                self.same(history_at(((3, 1),), scheme, 1), "0" * (length - 1) + "1")
                self.same(history_at(((3, 1),), scheme, length - 1), "0" + "1" * (length - 1))
                self.same(history_at(((3, 1),), scheme, length), "1" * length)
                self.same(history_at(((3, 1),), scheme, length + 1), "1" * length)

    def test_own_histories_know_nothing_of_other_branches(self):
        trace = ((0, 1), (1, 0), (1, 0), (1, 0))
        self.same([history_at(trace, ("own", 2), moment) for moment in (0, 4, 8, 12)], ["00", "01", "11", "11"])
        self.same([history_at(trace, ("own", 2), moment) for moment in (1, 2, 3, 5, 9)], ["00"] * 5)
        self.same([history_at(trace, ("split", 2), moment) for moment in (4, 5, 8, 9)], ["00", "01", "00", "01"])

    def test_the_first_moments(self):
        for trace, scheme in cases(SOME_TRACES, LENGTHS):
            with self.subTest(trace=trace, scheme=scheme):
                moments = min(2 * len(trace) + 3, 70)
                given = [history_at(trace, scheme, moment) for moment in range(moments)]
                self.same(given, told_histories(trace, scheme, moments))

    def test_many_rounds(self):
        for trace, scheme in cases(SMALL_TRACES, (3, 64)):
            with self.subTest(trace=trace, scheme=scheme):
                moments = (scheme[1] + 2) * len(trace)
                given = [history_at(trace, scheme, moment) for moment in range(moments)]
                self.same(given, told_histories(trace, scheme, moments))

    def test_late_moments(self):
        for trace, scheme in cases(SOME_TRACES, LENGTHS):
            with self.subTest(trace=trace, scheme=scheme):
                steady = told_steady(trace, scheme)
                for moment in [FAR - back for back in range(min(len(trace), 9))] + [10 ** 9, 10 ** 12 + 7, 64 * 64 + 1]:
                    self.same(history_at(trace, scheme, moment), steady[moment % len(trace)])

    def test_arguments_by_name(self):
        self.same(history_at(moment=3, scheme=("shared", 3), trace=PAIR), "110")
        self.same(history_at(PAIR, ("own", 2), moment=3), "01")


class CellAtTest(ExactTest):
    def test_plain_cells(self):
        self.same(cell_at(PAIR, ("own", 2), 2), (0, "01"))
        self.same(cell_at(PAIR, ("own", 2), 3), (1, "01"))
        self.same(cell_at(PAIR, ("split", 1), 1), (1, "1"))
        self.same(cell_at(PAIR, ("shared", 1), 1), "1")
        self.same(cell_at(PAIR, ("folded", 2, 2), 3), 3)
        self.same(cell_at(PAIR, ("folded", 2, 1), 3), 0)
        self.same(cell_at(PAIR, ("folded", 2, 0), 3), 0)
        self.same(cell_at(((7, 1),), ("folded", 0, 16), 0), 7)
        self.same(cell_at(((7, 1),), ("folded", 64, 16), FAR), 7)

    def test_length_0(self):
        for moment, branch in ((0, 0), (1, 1), (6, 0), (FAR + 1, 1)):
            self.same(cell_at(PAIR, ("own", 0), moment), (branch, ""))
            self.same(cell_at(PAIR, ("split", 0), moment), (branch, ""))
            self.same(cell_at(PAIR, ("shared", 0), moment), "")
            self.same(cell_at(PAIR, ("folded", 0, 3), moment), branch)

    def test_the_first_moments(self):
        for trace, scheme in cases(SOME_TRACES, LENGTHS):
            with self.subTest(trace=trace, scheme=scheme):
                moments = min(2 * len(trace) + 3, 70)
                histories = told_histories(trace, scheme, moments)
                branches = [trace[moment % len(trace)][0] for moment in range(moments)]
                expected = [told_cell(scheme, branch, history) for branch, history in zip(branches, histories)]
                self.same([cell_at(trace, scheme, moment) for moment in range(moments)], expected)

    def test_late_moments(self):
        for trace, scheme in cases(SOME_TRACES, LENGTHS):
            with self.subTest(trace=trace, scheme=scheme):
                steady = told_steady(trace, scheme)
                for moment in (FAR, FAR - 1, FAR - 2, 10 ** 9 + 5):
                    position = moment % len(trace)
                    expected = told_cell(scheme, trace[position][0], steady[position])
                    self.same(cell_at(trace, scheme, moment), expected)

    def test_folded_cells_for_all_bits(self):
        trace = TRACES[-1]
        for length in (0, 7, 64):
            for bits in range(17):
                scheme = ("folded", length, bits)
                histories = told_histories(trace, scheme, 80)
                for moment in range(0, 80, 7):
                    with self.subTest(scheme=scheme, moment=moment):
                        expected = told_cell(scheme, trace[moment % 64][0], histories[moment])
                        self.same(cell_at(trace, scheme, moment), expected)

    def test_arguments_by_name(self):
        self.same(cell_at(moment=3, scheme=("split", 3), trace=PAIR), (1, "110"))
        self.same(cell_at(PAIR, ("shared", 3), moment=3), "110")


class SteadyTest(ExactTest):
    def test_plain_steady_histories(self):
        self.same([steady_history(LOOP, ("shared", 2), position) for position in range(4)], ["10", "01", "11", "11"])
        self.same([steady_history(PAIR, ("own", 1), position) for position in range(4)], ["0", "0", "1", "1"])
        self.same([steady_history(PAIR, ("split", 3), position) for position in range(4)], ["100", "001", "011", "110"])
        self.same([steady_history(PAIR, ("shared", 0), position) for position in range(4)], [""] * 4)

    def test_plain_steady_cells(self):
        self.same(steady_cells(LOOP, ("shared", 2)), ("10", "01", "11", "11"))
        self.same(steady_cells(PAIR, ("own", 1)), ((0, "0"), (1, "0"), (0, "1"), (1, "1")))
        self.same(steady_cells(PAIR, ("split", 1)), ((0, "0"), (1, "1"), (0, "1"), (1, "0")))
        self.same(steady_cells(PAIR, ("folded", 1, 1)), (0, 0, 1, 1))
        self.same(steady_cells(PAIR, ("folded", 1, 0)), (0, 0, 0, 0))
        self.same(steady_cells(((7, 1),), ("own", 3)), ((7, "111"),))

    def test_a_branch_with_fewer_outcomes_than_the_length(self):
        trace = ((0, 1), (1, 0), (1, 1), (1, 1))
        self.same(steady_history(trace, ("own", 5), 0), "11111")
        self.same(steady_history(trace, ("own", 5), 1), "11011")
        self.same(steady_history(trace, ("own", 64), 0), "1" * 64)
        self.same(steady_history(trace, ("own", 64), 2), "0" + "110" * 21)
        self.same(steady_cells(trace, ("own", 4)), ((0, "1111"), (1, "1011"), (1, "0110"), (1, "1101")))

    def test_a_trace_with_fewer_pairs_than_the_length(self):
        self.same(steady_history(LOOP, ("shared", 7), 0), "1101110")
        self.same(steady_history(((2, 1),), ("split", 64), 0), "1" * 64)
        self.same(steady_history(((2, 1), (2, 0)), ("shared", 64), 1), "01" * 32)

    def test_all_steady_histories_and_cells(self):
        for trace, scheme in cases(SOME_TRACES, LENGTHS):
            with self.subTest(trace=trace, scheme=scheme):
                steady = told_steady(trace, scheme)
                given = [steady_history(trace, scheme, position) for position in range(len(trace))]
                self.same(given, list(steady))
                cells = tuple(told_cell(scheme, pair[0], history) for pair, history in zip(trace, steady))
                self.same(steady_cells(trace, scheme), cells)

    def test_the_late_histories_and_cells_are_the_steady_ones(self):
        for trace, scheme in cases(SMALL_TRACES, LENGTHS):
            with self.subTest(trace=trace, scheme=scheme):
                cells = steady_cells(trace, scheme)
                for position in range(len(trace)):
                    moment = position + len(trace) * 10 ** 15
                    self.same(steady_history(trace, scheme, position), history_at(trace, scheme, moment))
                    self.same(cells[position], cell_at(trace, scheme, moment))

    def test_arguments_by_name(self):
        self.same(steady_history(position=3, scheme=("shared", 3), trace=PAIR), "110")
        self.same(steady_cells(scheme=("shared", 1), trace=PAIR), ("0", "1", "1", "0"))


class SteadyFromTest(ExactTest):
    def test_plain_rounds(self):
        self.same([steady_from(LOOP, ("shared", length)) for length in range(7)], [0, 0, 1, 1, 1, 1, 2])
        self.same(steady_from(PAIR, ("own", 1)), 0)
        self.same(steady_from(PAIR, ("own", 2)), 1)
        self.same(steady_from(((0, 1), (1, 0)), ("own", 3)), 3)
        self.same(steady_from(((0, 1), (1, 0)), ("split", 3)), 1)
        self.same(steady_from(((0, 1), (1, 0)), ("shared", 4)), 2)

    def test_length_0(self):
        for trace in SOME_TRACES:
            for scheme in schemes_of(0):
                self.same(steady_from(trace, scheme), 0)

    def test_nothing_but_zeros(self):
        for trace in (((0, 0),), ((3, 0),) * 64, tuple((branch, 0) for branch in range(8))):
            for length in (1, 5, 64):
                for scheme in schemes_of(length):
                    self.same(steady_from(trace, scheme), 0)

    def test_one_round_for_each_character(self):
        for length in (1, 2, 63, 64):
            for scheme in schemes_of(length):
                self.same(steady_from(((4, 1),), scheme), length)
            self.same(steady_from(((4, 1),) + ((1, 0),) * 63, ("own", length)), length)

    def test_the_oldest_outcomes_may_be_zeros_by_themselves(self):
        # The steady history at the position 0 is 0 1110 1110: its oldest outcome is a 0, as ahead of the moment 0.
        self.same([steady_from(LOOP, ("shared", length)) for length in (8, 9, 10)], [2, 2, 3])

    def test_it_is_the_history_that_counts_not_the_cell(self):
        for bits in (0, 1, 2):
            self.same([steady_from(LOOP, ("folded", length, bits)) for length in (1, 2, 10)], [0, 1, 3])

    def test_all_traces_of_few_pairs(self):
        for trace, scheme in cases(SMALL_TRACES, LENGTHS):
            with self.subTest(trace=trace, scheme=scheme):
                self.same(steady_from(trace, scheme), told_steady_from(trace, scheme))

    def test_traces_of_many_pairs(self):
        for trace in SOME_TRACES:
            if len(trace) > 8:
                for scheme in (("own", 3), ("own", 64), ("shared", 2), ("split", 33), ("folded", 64, 5)):
                    with self.subTest(trace=trace, scheme=scheme):
                        self.same(steady_from(trace, scheme), told_steady_from(trace, scheme))

    def test_the_round_ahead_of_it_has_another_history(self):
        for trace, scheme in cases(SMALL_TRACES, (1, 5, 17)):
            with self.subTest(trace=trace, scheme=scheme):
                rounds = told_rounds(trace, scheme, scheme[1] + 2)
                steady = told_steady(trace, scheme)
                first = steady_from(trace, scheme)
                self.assertTrue(first == 0 or rounds[first - 1] != steady)
                self.assertEqual([row for row in rounds[first:] if row != steady], [])

    def test_arguments_by_name(self):
        self.same(steady_from(scheme=("shared", 6), trace=LOOP), 2)


class SomewhatBeyondTest(ExactTest):
    """The interface: no error for what is somewhat beyond a limit."""

    def test_longer_histories_later_moments_and_longer_traces(self):
        self.same(history_at(((0, 1),), ("shared", 65), 64), "0" + "1" * 64)
        self.same(history_at(PAIR, ("shared", 2), FAR + 2), "11")
        self.same(steady_history(((0, 1),), ("own", 70), 0), "1" * 70)
        self.same(steady_cells(((0, 0),) * 64 + ((0, 1),), ("shared", 1))[0], "1")
        self.same(steady_from(((0, 1),), ("own", 70)), 70)

    def test_lengths_below_0(self):
        for scheme in schemes_of(-1):
            self.same(history_at(LOOP, scheme, 5), "")
            self.same(steady_history(LOOP, scheme, 1), "")
            self.same(steady_from(LOOP, scheme), 0)


if __name__ == "__main__":
    unittest.main()
