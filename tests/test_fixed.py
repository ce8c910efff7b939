"""table_errors, fewest_errors, best_table, forced and shows_forced."""

import itertools
import random
import unittest

from pastenough.clashes import clashes, table
from pastenough.fixed import best_table, fewest_errors, forced, shows_forced, table_errors
from tests.model import told_clashes, told_steady_cells
from tests.samples import (
    ANY_VALUES, LOOP, PAIR, TRACES, ExactTest, Unchanged, cases, kinds, random_traces, schemes_of,
)

SOME_TRACES = TRACES + tuple(random_traces(18, 16))
SMALL_TRACES = tuple(trace for trace in SOME_TRACES if len(trace) <= 8)
EIGHT = TRACES[9]
HALF = ((4, 0),) * 32 + ((4, 1),) * 32
ZIGZAG = ((0, 0), (0, 1), (0, 0), (0, 1))


def told_table_errors(trace, scheme, some):
    """The wrong positions, each looked up entry by entry."""
    wrong = 0
    for cell, (_, outcome) in zip(told_steady_cells(trace, scheme), trace):
        told = [entry[1] for entry in some if kinds(entry[0]) == kinds(cell)]
        wrong += outcome != (told[0] if told else 0)
    return wrong


def told_fewest(trace, scheme):
    """In each cell the rarer outcome goes wrong."""
    cells = told_steady_cells(trace, scheme)
    told = {cell: [pair[1] for other, pair in zip(cells, trace) if other == cell] for cell in cells}
    return sum(min(outcomes.count(0), outcomes.count(1)) for outcomes in told.values())


def all_tables(trace, scheme):
    """All fixed tables that have each steady cell once, and no others."""
    cells = sorted(set(told_steady_cells(trace, scheme)))
    return [tuple(zip(cells, outcomes)) for outcomes in itertools.product((0, 1), repeat=len(cells))]


class TableErrorsTest(ExactTest):
    def check(self, trace, scheme, some):
        with self.subTest(trace=trace, scheme=scheme, some=some), Unchanged(self, some):
            self.same(table_errors(trace, scheme, some), told_table_errors(trace, scheme, some))

    def test_plain_tables(self):
        self.same(table_errors(LOOP, ("shared", 2), ()), 3)
        self.same(table_errors(LOOP, ("shared", 2), (("01", 1), ("10", 1), ("11", 0))), 1)
        self.same(table_errors(LOOP, ("shared", 2), (("11", 1),)), 3)
        self.same(table_errors(LOOP, ("shared", 3), table(LOOP, ("shared", 3))), 0)
        self.same(table_errors(PAIR, ("folded", 1, 1), ((1, 0), (0, 1))), 0)
        self.same(table_errors(PAIR, ("own", 1), (((0, "1"), 1), ((1, "1"), 1))), 4)
        self.same(table_errors(((7, 1),), ("shared", 0), ()), 1)
        self.same(table_errors(((7, 1),), ("shared", 0), (("", 1),)), 0)
        self.same(table_errors(((4, 1),) * 64, ("own", 64), ()), 64)

    def test_tables_with_other_cells(self):
        others = ((0, 1), (1, 1), ("", 1), ("0", 1), ("011", 1), ((0, "01"), 1), ((0, ""), 1), ((3, "11"), 0))
        self.same(table_errors(LOOP, ("shared", 2), others), 3)
        self.same(table_errors(LOOP, ("shared", 2), others + (("11", 1),)), 3)
        self.same(table_errors(LOOP, ("own", 2), others), 2)
        self.same(table_errors(LOOP, ("folded", 2, 1), others), 1)
        self.same(table_errors(LOOP, ("shared", 0), others), 1)
        self.same(table_errors(EIGHT, ("own", 0), others), 5)
        for trace in SMALL_TRACES:
            for scheme in schemes_of(0) + schemes_of(1) + schemes_of(2):
                self.check(trace, scheme, others)

    def test_the_entries_may_stand_in_any_order(self):
        for some in itertools.permutations((("01", 1), ("10", 0), ("11", 1))):
            self.same(table_errors(LOOP, ("shared", 2), some), 2)

    def test_random_tables(self):
        source = random.Random(19)
        for trace, scheme in cases(SOME_TRACES, (0, 1, 4, 64)):
            cells = sorted(set(told_steady_cells(trace, scheme)))
            chosen = source.sample(cells, source.randint(0, len(cells)))
            self.check(trace, scheme, tuple((cell, source.randint(0, 1)) for cell in chosen))

    def test_arguments_by_name(self):
        self.same(table_errors(table=(("10", 1),), scheme=("shared", 2), trace=LOOP), 2)


class FewestErrorsTest(ExactTest):
    def test_plain_schemes(self):
        self.same([fewest_errors(LOOP, ("shared", length)) for length in range(5)], [1, 1, 1, 0, 0])
        self.same([fewest_errors(PAIR, (word, 0)) for word in ("own", "split", "shared")], [2, 2, 2])
        self.same([fewest_errors(PAIR, ("folded", length, 1)) for length in range(3)], [2, 0, 2])
        self.same([fewest_errors(PAIR, ("folded", 2, bits)) for bits in range(3)], [2, 2, 0])
        self.same([fewest_errors(((7, outcome),), ("shared", 0)) for outcome in (0, 1)], [0, 0])
        self.same(fewest_errors(HALF, ("own", 0)), 32)
        self.same(fewest_errors(HALF + ((4, 1),), ("folded", 0, 16)), 32)
        self.same(fewest_errors(EIGHT, ("shared", 0)), 4)
        self.same(fewest_errors(EIGHT, ("own", 0)), 0)
        self.same(fewest_errors(scheme=("shared", 2), trace=LOOP), 1)

    def test_all_traces(self):
        for trace, scheme in cases(SOME_TRACES, (0, 1, 3, 63, 64)):
            with self.subTest(trace=trace, scheme=scheme):
                self.same(fewest_errors(trace, scheme), told_fewest(trace, scheme))

    def test_no_table_has_fewer(self):
        for trace, scheme in cases(SMALL_TRACES, (0, 1, 2)):
            with self.subTest(trace=trace, scheme=scheme):
                least = min(told_table_errors(trace, scheme, some) for some in all_tables(trace, scheme))
                self.same(fewest_errors(trace, scheme), least)


class BestTableTest(ExactTest):
    def test_plain_schemes(self):
        self.same(best_table(LOOP, ("shared", 3)), (("011", 1), ("101", 1), ("110", 1), ("111", 0)))
        self.same(best_table(LOOP, ("shared", 1)), (("0", 1), ("1", 1)))
        self.same(best_table(LOOP, ("folded", 5, 0)), ((0, 1),))
        self.same(best_table(((7, 0), (7, 0), (7, 1)), ("own", 0)), (((7, ""), 0),))
        self.same(best_table(((7, 1),), ("shared", 64)), (("1" * 64, 1),))
        self.assertIn(best_table(LOOP, ("shared", 2)), all_tables(LOOP, ("shared", 2)))
        self.same(best_table(scheme=("shared", 1), trace=LOOP), (("0", 1), ("1", 1)))

    def test_all_traces(self):
        for trace, scheme in cases(SOME_TRACES, (0, 1, 3, 64)):
            with self.subTest(trace=trace, scheme=scheme):
                best = best_table(trace, scheme)
                self.assertIs(type(best), tuple)
                cells = sorted(set(told_steady_cells(trace, scheme)))
                self.same([cell for cell, _ in best], cells)
                self.same([(type(entry), type(entry[1])) for entry in best], [(tuple, int)] * len(best))
                self.assertLessEqual({outcome for _, outcome in best}, {0, 1})
                self.same(told_table_errors(trace, scheme, best), told_fewest(trace, scheme))
                self.same(table_errors(trace, scheme, best), fewest_errors(trace, scheme))

    def test_it_is_the_table_of_a_sure_scheme(self):
        for trace, scheme in cases(SOME_TRACES, (0, 2, 5)):
            if table(trace, scheme) is not None:
                self.same(best_table(trace, scheme), table(trace, scheme))


class ForcedTest(ExactTest):
    def check(self, trace, scheme):
        with self.subTest(trace=trace, scheme=scheme):
            pairs = forced(trace, scheme)
            self.assertIs(type(pairs), tuple)
            self.same(len(pairs), told_fewest(trace, scheme))
            self.same(list(pairs), sorted(set(pairs)))
            right = [kinds(pair) for pair in told_clashes(trace, scheme)]
            self.assertEqual([pair for pair in pairs if kinds(pair) not in right], [])
            positions = [position for pair in pairs for position in pair]
            self.assertEqual(len(positions), len(set(positions)))
            self.same(shows_forced(trace, scheme, pairs), True)

    def test_plain_schemes(self):
        self.same(forced(LOOP, ("shared", 2)), ((2, 3),))
        self.same(forced(LOOP, ("shared", 3)), ())
        self.same(forced(((0, 0),) * 64, ("folded", 0, 0)), ())
        self.same(forced(PAIR, ("own", 0)), ((0, 2), (1, 3)))
        self.same(forced(PAIR, ("shared", 1)), ((0, 3), (1, 2)))
        self.same(len(forced(HALF, ("own", 0))), 32)
        self.same(forced(scheme=("own", 0), trace=PAIR), ((0, 2), (1, 3)))

    def test_all_traces(self):
        for trace, scheme in cases(SOME_TRACES, (0, 1, 3, 64)):
            self.check(trace, scheme)
        self.check(HALF, ("shared", 0))

    def test_each_pair_forces_an_error(self):
        for trace, scheme in cases(SMALL_TRACES, (0, 1)):
            for one, other in forced(trace, scheme):
                cells = told_steady_cells(trace, scheme)
                for some in all_tables(trace, scheme):
                    known = dict(some)
                    wrong = [known[cells[position]] != trace[position][1] for position in (one, other)]
                    self.assertEqual(sum(wrong), 1)


class ShowsForcedTest(ExactTest):
    def check(self, trace, scheme, value, expected):
        with self.subTest(trace=trace, scheme=scheme, value=value), Unchanged(self, value):
            self.same(shows_forced(trace, scheme, value), expected)

    def test_plain_values(self):
        self.check(PAIR, ("shared", 1), ((0, 3),), True)
        self.check(PAIR, ("shared", 1), ((0, 3), (1, 2)), True)
        self.check(PAIR, ("shared", 1), (), True)
        self.check(PAIR, ("shared", 1), ((0, 3), (0, 3)), False)
        self.check(PAIR, ("shared", 1), ((1, 2), (0, 3)), False)
        self.check(PAIR, ("shared", 1), ((0, 2),), False)
        self.check(PAIR, ("shared", 1), ((3, 0),), False)

    def test_no_position_in_two_pairs(self):
        self.check(ZIGZAG, ("own", 0), ((0, 1), (2, 3)), True)
        self.check(ZIGZAG, ("own", 0), ((0, 3), (1, 2)), True)
        self.check(ZIGZAG, ("own", 0), ((0, 1), (1, 2)), False)
        self.check(ZIGZAG, ("own", 0), ((0, 1), (0, 3)), False)
        self.check(ZIGZAG, ("own", 0), ((0, 3), (2, 3)), False)
        self.check(ZIGZAG, ("own", 0), ((0, 1), (0, 3), (1, 2)), False)

    def test_what_is_nearly_right(self):
        for value in (
            [(0, 1), (2, 3)], ([0, 1], (2, 3)), ((0, 1), [2, 3]), ((False, True), (2, 3)), ((0, True), (2, 3)),
            ((False, 1), (2, 3)), ((1, 0), (2, 3)), ((0, 1), (3, 2)), ((0, 1), (2, 3, 4)), ((0, 1), (2,)), ((0, 1), ()),
            ((0, 1), None), (0, 1), (0, 1, 2, 3), (((0, 1), (2, 3)),), ((0, 1), ("2", "3")), {(0, 1): (2, 3)},
            ((0, 1), (-2, 3)), ((0, 1), (2, 4)), ((0, 2), (1, 3)), ((-4, 1),), ((0, 5),), ((2, 3), (0, 1)), "", [], {},
            None, 0, False, True, ((0, 1), "23"), ((0, 1), {2: 3}), ((0, 1), (2, [3])), ((0, 1),) * 20000,
        ):
            self.check(ZIGZAG, ("own", 0), value, False)

    def test_all_tuples_of_pairs(self):
        for scheme in (("own", 0), ("own", 1), ("own", 2)):
            right = told_clashes(ZIGZAG, scheme)
            pairs = list(itertools.product(range(4), repeat=2))
            for size in (1, 2):
                for value in itertools.product(pairs, repeat=size):
                    flat = [position for pair in value for position in pair]
                    expected = all(pair in right for pair in value) and list(value) == sorted(value)
                    expected = expected and len(flat) == len(set(flat))
                    self.assertIs(shows_forced(ZIGZAG, scheme, value), expected, (scheme, value))

    def test_parts_of_what_is_forced(self):
        for trace, scheme in cases(SMALL_TRACES, (0, 1)) + [(HALF, ("own", 0))]:
            pairs = forced(trace, scheme)
            for size in (0, 1, len(pairs) // 2, len(pairs)):
                self.check(trace, scheme, pairs[:size], True)
                self.check(trace, scheme, list(pairs[:size]), False)
            if len(pairs) > 1:
                self.check(trace, scheme, pairs[::-1], False)
                self.check(trace, scheme, pairs + pairs[-1:], False)

    def test_any_value(self):
        for trace, scheme in ((ZIGZAG, ("own", 0)), (LOOP, ("shared", 3)), (((0, 0), (0, 1)), ("folded", 0, 16))):
            right = [kinds(())] + [kinds((pair,)) for pair in clashes(trace, scheme)]
            for value in ANY_VALUES:
                self.check(trace, scheme, value, kinds(value) in right)

    def test_arguments_by_name(self):
        self.same(shows_forced(value=((0, 3),), scheme=("shared", 1), trace=PAIR), True)
        self.same(shows_forced(PAIR, ("shared", 1), value=((0, 2),)), False)


class SomewhatBeyondTest(ExactTest):
    """The interface: no error for what is somewhat beyond a limit."""

    def test_more_than_sixty_four_pairs_and_longer_histories(self):
        trace = ((0, 0), (0, 1)) * 33
        self.same(fewest_errors(trace, ("own", 0)), 33)
        self.same(len(forced(trace, ("own", 0))), 33)
        self.same(shows_forced(trace, ("own", 0), forced(trace, ("own", 0))), True)
        self.same(fewest_errors(LOOP, ("shared", 65)), 0)
        self.same(table_errors(LOOP, ("shared", -1), (("", 1),)), 1)


if __name__ == "__main__":
    unittest.main()
