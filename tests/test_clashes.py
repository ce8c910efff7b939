"""groups, clashes, first_clash, is_sure, shows_clash, table and shows_table."""

import itertools
import types
import unittest

from pastenough.clashes import clashes, first_clash, groups, is_sure, shows_clash, shows_table, table
from tests.model import told_clashes, told_steady_cells
from tests.samples import (
    ANY_VALUES, LOOP, PAIR, TRACES, ExactTest, Unchanged, cases, kinds, random_traces, schemes_of,
)

SOME_TRACES = TRACES + tuple(random_traces(7, 20))
LENGTHS = (0, 1, 2, 5, 63, 64)
SMALL_CASES = cases([trace for trace in SOME_TRACES if len(trace) <= 12], (0, 1, 3))
EIGHT = TRACES[9]


class GroupsTest(ExactTest):
    def test_plain_groups(self):
        self.same(groups(LOOP, ("shared", 2)), (("01", (1,)), ("10", (0,)), ("11", (2, 3))))
        self.same(groups(LOOP, ("own", 0)), (((0, ""), (0, 1, 2, 3)),))
        self.same(groups(PAIR, ("own", 0)), (((0, ""), (0, 2)), ((1, ""), (1, 3))))
        self.same(groups(PAIR, ("split", 1)), (((0, "0"), (0,)), ((0, "1"), (2,)), ((1, "0"), (3,)), ((1, "1"), (1,))))
        self.same(groups(PAIR, ("shared", 1)), (("0", (0, 3)), ("1", (1, 2))))
        self.same(groups(PAIR, ("folded", 1, 1)), ((0, (0, 1)), (1, (2, 3))))
        self.same(groups(PAIR, ("folded", 2, 0)), ((0, (0, 1, 2, 3)),))

    def test_one_pair(self):
        self.same(groups(((7, 1),), ("own", 2)), (((7, "11"), (0,)),))
        self.same(groups(((7, 1),), ("shared", 0)), (("", (0,)),))
        self.same(groups(((7, 1),), ("folded", 64, 16)), ((7, (0,)),))

    def test_folded_cells_ascend_as_numbers(self):
        trace = tuple((branch, 0) for branch in range(8)) + ((7, 1), (7, 1), (0, 1))
        cells = [cell for cell, _ in groups(trace, ("folded", 5, 16))]
        self.assertGreater(max(cells), 9)
        self.assertEqual(cells, sorted(cells))

    def test_all_traces(self):
        for trace, scheme in cases(SOME_TRACES, LENGTHS):
            with self.subTest(trace=trace, scheme=scheme):
                cells = told_steady_cells(trace, scheme)
                alike = {cell: tuple(at for at, other in enumerate(cells) if other == cell) for cell in cells}
                self.same(groups(trace, scheme), tuple((cell, alike[cell]) for cell in sorted(alike)))

    def test_arguments_by_name(self):
        self.same(groups(scheme=("shared", 1), trace=PAIR), (("0", (0, 3)), ("1", (1, 2))))


class ClashesTest(ExactTest):
    def test_plain_clashes(self):
        self.same(list(clashes(LOOP, ("shared", 2))), [(2, 3)])
        self.same(list(clashes(LOOP, ("shared", 0))), [(0, 3), (1, 3), (2, 3)])
        self.same(list(clashes(LOOP, ("shared", 3))), [])
        self.same(list(clashes(PAIR, ("folded", 2, 1))), [(0, 2), (0, 3), (1, 2), (1, 3)])
        self.same(list(clashes(PAIR, ("own", 0))), [(0, 2), (1, 3)])
        self.same(list(clashes(PAIR, ("shared", 1))), [(0, 3), (1, 2)])
        self.same(list(clashes(((0, 1),), ("shared", 0))), [])

    def test_branches_that_do_not_share_a_cell_do_not_clash(self):
        self.same(list(clashes(EIGHT, ("own", 0))), [])
        self.same(list(clashes(EIGHT, ("split", 0))), [])
        self.same(list(clashes(EIGHT, ("folded", 0, 3))), [])
        unlike = [(one, other) for one, other in itertools.combinations(range(8), 2) if (one + other) % 2]
        self.same(list(clashes(EIGHT, ("shared", 0))), unlike)
        self.same(list(clashes(EIGHT, ("folded", 0, 0))), unlike)

    def test_sixty_four_pairs_that_all_share_a_cell(self):
        trace = ((4, 1),) + ((4, 0),) * 63
        self.same(list(clashes(trace, ("split", 0))), [(0, other) for other in range(1, 64)])
        half = ((4, 0),) * 32 + ((4, 1),) * 32
        pairs = [(one, other) for one in range(32) for other in range(32, 64)]
        self.same(list(clashes(half, ("shared", 0))), pairs)

    def test_all_traces(self):
        for trace, scheme in cases(SOME_TRACES, LENGTHS):
            with self.subTest(trace=trace, scheme=scheme):
                expected = told_clashes(trace, scheme)
                self.same(list(clashes(trace, scheme)), expected)
                self.same(first_clash(trace, scheme), expected[0] if expected else None)
                self.same(is_sure(trace, scheme), not expected)

    def test_it_is_a_generator(self):
        self.assertIsInstance(clashes(LOOP, ("shared", 2)), types.GeneratorType)
        self.assertIsInstance(clashes(LOOP, ("shared", 3)), types.GeneratorType)

    def test_walked_twice(self):
        walk = clashes(LOOP, ("shared", 0))
        self.same(list(walk), [(0, 3), (1, 3), (2, 3)])
        self.same(list(walk), [])
        self.same(list(clashes(LOOP, ("shared", 0))), [(0, 3), (1, 3), (2, 3)])

    def test_left_early(self):
        left = clashes(LOOP, ("shared", 0))
        self.same(next(left), (0, 3))
        self.same(list(clashes(LOOP, ("shared", 0))), [(0, 3), (1, 3), (2, 3)])
        self.same(next(left), (1, 3))
        left.close()
        self.same(list(left), [])
        self.same(list(clashes(LOOP, ("shared", 0))), [(0, 3), (1, 3), (2, 3)])

    def test_two_at_once(self):
        both = list(zip(clashes(PAIR, ("own", 0)), clashes(PAIR, ("shared", 1))))
        self.same(both, [((0, 2), (0, 3)), ((1, 3), (1, 2))])

    def test_arguments_by_name(self):
        self.same(list(clashes(scheme=("own", 0), trace=PAIR)), [(0, 2), (1, 3)])


class FirstClashTest(ExactTest):
    def test_plain_clashes(self):
        self.same(first_clash(LOOP, ("shared", 2)), (2, 3))
        self.same(first_clash(LOOP, ("shared", 0)), (0, 3))
        self.same(first_clash(LOOP, ("shared", 3)), None)
        self.same(first_clash(((0, 0),) * 64, ("folded", 0, 0)), None)
        self.same(first_clash(scheme=("own", 0), trace=PAIR), (0, 2))

    def test_the_first_one_of_the_lesser_position(self):
        trace = ((0, 1), (1, 1), (1, 0), (0, 0))
        self.same(first_clash(trace, ("own", 0)), (0, 3))


class IsSureTest(ExactTest):
    def test_plain_schemes(self):
        self.same([is_sure(LOOP, ("shared", length)) for length in range(6)], [False] * 3 + [True] * 3)
        self.same([is_sure(PAIR, (word, 1)) for word in ("own", "split", "shared")], [True, True, False])
        self.same([is_sure(PAIR, ("folded", 2, bits)) for bits in range(4)], [False, False, True, True])
        self.same(is_sure(((7, 0),), ("folded", 0, 0)), True)
        self.same(is_sure(scheme=("own", 0), trace=PAIR), False)

    def test_sixty_four_pairs_need_a_history_of_63(self):
        trace = ((4, 1),) + ((4, 0),) * 63
        for word in ("own", "split", "shared"):
            self.same([is_sure(trace, (word, length)) for length in (0, 1, 62, 63, 64)], [False] * 3 + [True] * 2)

    def test_more_history_may_disturb_a_folded_table(self):
        self.same([is_sure(PAIR, ("folded", length, 1)) for length in (0, 1, 2)], [False, True, False])


class ShowsClashTest(ExactTest):
    def check(self, trace, scheme, value, expected):
        with self.subTest(trace=trace, scheme=scheme, value=value), Unchanged(self, value):
            self.same(shows_clash(trace, scheme, value), expected)

    def test_plain_pairs(self):
        self.check(PAIR, ("folded", 2, 1), (0, 2), True)
        self.check(PAIR, ("folded", 2, 1), (1, 3), True)
        self.check(PAIR, ("folded", 2, 1), (0, 1), False)
        self.check(PAIR, ("folded", 2, 1), (2, 0), False)
        self.check(PAIR, ("folded", 2, 2), (0, 2), False)

    def test_all_pairs(self):
        for trace, scheme in SMALL_CASES:
            right = told_clashes(trace, scheme)
            for value in itertools.product(range(-2, len(trace) + 2), repeat=2):
                self.assertIs(shows_clash(trace, scheme, value), value in right, (trace, scheme, value))

    def test_all_pairs_of_sixty_four(self):
        for scheme in (("shared", 0), ("own", 62), ("folded", 64, 1)):
            right = told_clashes(TRACES[12], scheme)
            for value in itertools.product(range(0, 64, 3), repeat=2):
                self.assertIs(shows_clash(TRACES[12], scheme, value), value in right, (scheme, value))
            self.check(TRACES[12], scheme, (0, 64), False)
            self.check(TRACES[12], scheme, (-1, 1), False)

    def test_what_is_nearly_a_clash(self):
        trace = ((0, 0), (0, 1), (0, 0), (0, 1))
        self.check(trace, ("own", 0), (0, 1), True)
        for value in (
            (False, True), (0, True), (False, 1), [0, 1], (0, 1, 2), (0,), (1,), (), ((0, 1),), ((0,), (1,)), 1, True,
            ("0", "1"), "01", "0 1", (0, None), (None, 1), (0, "1"), (0, [1]), ([0], 1), {0: 1}, (0, 5), (-4, 1),
            (0, -3), (1, 0), (0, 0), (0, 2), (10 ** 18, 1), (0, -(10 ** 18)),
        ):
            self.check(trace, ("own", 0), value, False)

    def test_any_value(self):
        for trace, scheme in ((LOOP, ("shared", 0)), (((0, 0), (0, 1)), ("own", 0)), (PAIR, ("folded", 2, 1))):
            right = [kinds(pair) for pair in told_clashes(trace, scheme)]
            for value in ANY_VALUES:
                self.check(trace, scheme, value, kinds(value) in right)

    def test_where_nothing_clashes(self):
        for value in ANY_VALUES + ((0, 3), (2, 3), (0, 0)):
            self.check(LOOP, ("shared", 3), value, False)

    def test_arguments_by_name(self):
        self.same(shows_clash(value=(0, 2), scheme=("own", 0), trace=PAIR), True)
        self.same(shows_clash(PAIR, ("own", 0), value=(0, 1)), False)


class TableTest(ExactTest):
    def test_plain_tables(self):
        self.same(table(LOOP, ("shared", 3)), (("011", 1), ("101", 1), ("110", 1), ("111", 0)))
        self.same(table(LOOP, ("shared", 2)), None)
        self.same(table(PAIR, ("own", 1)), (((0, "0"), 1), ((0, "1"), 0), ((1, "0"), 1), ((1, "1"), 0)))
        self.same(table(PAIR, ("folded", 1, 1)), ((0, 1), (1, 0)))
        self.same(table(PAIR, ("folded", 1, 0)), None)
        self.same(table(((7, 1),), ("shared", 0)), (("", 1),))
        self.same(table(((7, 0),), ("split", 1)), (((7, "0"), 0),))
        self.same(table(((0, 0),) * 64, ("folded", 64, 16)), ((0, 0),))
        self.same(table(EIGHT, ("own", 0)), tuple(((branch, ""), branch % 2) for branch in range(8)))

    def test_all_traces(self):
        for trace, scheme in cases(SOME_TRACES, LENGTHS):
            with self.subTest(trace=trace, scheme=scheme):
                cells = told_steady_cells(trace, scheme)
                entries = sorted({(cell, pair[1]) for cell, pair in zip(cells, trace)})
                sure = len(entries) == len(set(cells))
                self.same(table(trace, scheme), tuple(entries) if sure else None)

    def test_arguments_by_name(self):
        self.same(table(scheme=("shared", 0), trace=((2, 1), (2, 1))), (("", 1),))


def nearly(right):
    """What differs from a table by one step."""
    other = [right[::-1], (right,), list(right), dict(right), right[0], tuple(list(entry) for entry in right), ()]
    other += [right[:at] + right[at + 1:] for at in range(len(right))]
    other += [right + right[at:at + 1] for at in range(len(right))]
    for at, (cell, outcome) in enumerate(right):
        changed = [(cell, 1 - outcome), (cell, bool(outcome)), (cell, str(outcome)), (cell, None), (cell,), cell, None]
        changed += [(cell, outcome, outcome), [cell, outcome], (outcome, cell), (str(cell), outcome)]
        changed += [((cell,), outcome), ([cell], outcome)]
        if isinstance(cell, tuple):
            changed += [(list(cell), outcome), (cell[::-1], outcome), (cell[1], outcome), (cell[:1], outcome)]
            changed += [((bool(cell[0]), cell[1]), outcome), ((cell[0] + 1, cell[1]), outcome)]
        if isinstance(cell, int):
            changed += [(bool(cell), outcome), (cell - 1, outcome)]
        other += [right[:at] + (entry,) + right[at + 1:] for entry in changed]
    return [value for value in other if kinds(value) != kinds(right)]


class ShowsTableTest(ExactTest):
    def check(self, trace, scheme, value, expected):
        with self.subTest(trace=trace, scheme=scheme, value=value), Unchanged(self, value):
            self.same(shows_table(trace, scheme, value), expected)

    def test_plain_tables(self):
        self.check(LOOP, ("shared", 3), (("011", 1), ("101", 1), ("110", 1), ("111", 0)), True)
        self.check(LOOP, ("shared", 3), (("011", 1), ("101", 1), ("111", 0), ("110", 1)), False)
        self.check(PAIR, ("folded", 1, 1), ((0, 1), (1, 0)), True)
        self.check(PAIR, ("folded", 1, 1), ((False, 1), (True, 0)), False)
        self.check(PAIR, ("folded", 1, 1), ((0, True), (1, False)), False)
        self.check(PAIR, ("own", 1), (((0, "0"), 1), ((0, "1"), 0), ((1, "0"), 1), ((1, "1"), 0)), True)
        self.check(PAIR, ("split", 1), (((0, "0"), 1), ((0, "1"), 0), ((1, "0"), 1), ((1, "1"), 0)), False)

    def test_the_table_and_what_is_nearly_it(self):
        for trace, scheme in SMALL_CASES:
            right = table(trace, scheme)
            if right is not None:
                self.check(trace, scheme, right, True)
                for value in nearly(right):
                    self.check(trace, scheme, value, False)

    def test_large_tables(self):
        for trace in (TRACES[12], TRACES[15]):
            for scheme in schemes_of(63) + schemes_of(64):
                right = table(trace, scheme)
                if right is not None:
                    self.check(trace, scheme, right, True)
                    self.check(trace, scheme, right[:-1], False)
                    self.check(trace, scheme, right[:-1] + ((right[-1][0], bool(right[-1][1])),), False)

    def test_any_value(self):
        for trace, scheme in ((((0, 1), (0, 1)), ("folded", 0, 3)), (LOOP, ("shared", 3)), (PAIR, ("own", 1))):
            for value in ANY_VALUES:
                self.check(trace, scheme, value, kinds(value) == kinds(table(trace, scheme)))

    def test_no_value_where_the_scheme_is_not_sure(self):
        first = tuple((cell, LOOP[positions[0]][1]) for cell, positions in groups(LOOP, ("shared", 2)))
        last = tuple((cell, LOOP[positions[-1]][1]) for cell, positions in groups(LOOP, ("shared", 2)))
        for value in ANY_VALUES + (first, last, table(LOOP, ("shared", 3)), False):
            self.check(LOOP, ("shared", 2), value, False)

    def test_arguments_by_name(self):
        self.same(shows_table(value=((0, 1), (1, 0)), scheme=("folded", 1, 1), trace=PAIR), True)
        self.same(shows_table(PAIR, ("folded", 1, 1), value=None), False)


class SomewhatBeyondTest(ExactTest):
    """The interface: no error for what is somewhat beyond a limit."""

    def test_more_than_sixty_four_pairs_and_longer_histories(self):
        trace = ((0, 0),) * 64 + ((0, 1),)
        self.same(is_sure(trace, ("shared", 63)), False)
        self.same(first_clash(trace, ("shared", 63)), (63, 64))
        self.same(is_sure(trace, ("shared", 64)), True)
        self.same(table(LOOP, ("shared", 65))[0], ("01" + "1101" * 15 + "110", 1))
        self.same(shows_clash(trace, ("own", 0), (0, 64)), True)


if __name__ == "__main__":
    unittest.main()
