'''The examples of the document, as they stand there, and those of README.md.'''

import doctest
import unittest
from pathlib import Path

from pastenough.errors import TooShort
from pastenough.ways import way_of

README = Path(__file__).resolve().parent.parent / "README.md"

NAMES = """
>>> LOOP = ((0, 1), (0, 1), (0, 1), (0, 0))
>>> PAIR = ((0, 1), (1, 1), (0, 0), (1, 0))
"""

SECTION_5 = """
>>> from pastenough.traces import branches, is_scheme, is_trace, outcomes_of, root_of, trace_of, turned
>>> (is_trace(LOOP), is_trace(((8, 0),)), is_scheme(("own", 3)), is_scheme(("folded", 3)))
(True, False, True, False)
>>> (branches(PAIR), outcomes_of(PAIR, 1), trace_of((1, 1, 1, 0)) == LOOP, root_of((1, 0, 1, 0)), turned(LOOP, -1))
((0, 1), (1, 0), True, (1, 0), ((0, 0), (0, 1), (0, 1), (0, 1)))
"""

SECTION_6 = """
>>> from pastenough.histories import cell_at, fold, history_at, steady_cells, steady_from
>>> ([history_at(LOOP, ("shared", 2), moment) for moment in range(5)], steady_cells(LOOP, ("shared", 2)), steady_from(LOOP, ("shared", 2)))
(['00', '01', '11', '11', '10'], ('10', '01', '11', '11'), 1)
>>> (steady_cells(PAIR, ("own", 1)), steady_cells(PAIR, ("folded", 1, 1)), fold("10110", 3, 1), cell_at(PAIR, ("split", 1), 1))
(((0, '0'), (1, '0'), (0, '1'), (1, '1')), (0, 0, 1, 1), 5, (1, '1'))
"""

SECTION_7 = """
>>> from pastenough.clashes import clashes, groups, is_sure, shows_clash, table
>>> (groups(LOOP, ("shared", 2)), list(clashes(LOOP, ("shared", 2))), is_sure(LOOP, ("shared", 3)))
((('01', (1,)), ('10', (0,)), ('11', (2, 3))), [(2, 3)], True)
>>> (table(LOOP, ("shared", 3)), table(LOOP, ("shared", 2)), shows_clash(PAIR, ("folded", 2, 1), (0, 2)))
((('011', 1), ('101', 1), ('110', 1), ('111', 0)), None, True)
"""

SECTION_8 = """
>>> from pastenough.lengths import least_length, longest_factor, reach, reason
>>> (least_length(LOOP, "shared"), [least_length(PAIR, word) for word in ("own", "split", "shared")], least_length(PAIR, "folded", bits=1))
(3, [1, 1, 2], 1)
>>> (reason(LOOP, "shared")[0], reason(LOOP, "shared")[2], reach((1, 1, 1, 0)), longest_factor((1, 1, 1, 0)), longest_factor((1, 1)))
(3, (2, 3), 3, (2, 0, 1), None)
"""

SECTION_9 = """
>>> from pastenough.counters import changes, counted, fixed_values, settled_errors, settled_value, value_after, value_map
>>> (value_after(2, 3, 1), counted((2, 1), (1, 1, 1, 0)), value_map(2, (0, 1)), fixed_values(2, (0, 1)))
(3, (2, 2), (1, 1, 2, 3), (1, 2, 3))
>>> ([settled_errors((2, first), (0, 1)) for first in range(4)], settled_value((2, 0), (0, 1)), changes((0, 1)), changes((1, 1, 1, 0)))
([1, 1, 2, 1], 1, 2, 2)
"""

SECTION_10 = """
>>> from pastenough.running import errors_by_branch, errors_in, predictions
>>> ([errors_in(LOOP, ("shared", 0), (2, 1), rounds) for rounds in range(4)], errors_by_branch(PAIR, ("split", 1), (1, 0), 2))
([0, 2, 3, 4], ((0, 1), (1, 1)))
>>> list(predictions(LOOP, ("shared", 0), (2, 1), 1))
[(0, 0, 1), (0, 1, 1), (0, 1, 1), (0, 1, 0)]
"""

SECTION_11 = """
>>> from pastenough.far import last_error, settles, steady_errors, total_errors
>>> (steady_errors(LOOP, ("shared", 0), (2, 1)), settles(LOOP, ("shared", 0), (2, 1)), total_errors(LOOP, ("shared", 0), (2, 1), 10 ** 18), last_error(LOOP, ("shared", 0), (2, 1)))
(1, 1, 1000000000000000001, None)
>>> (steady_errors(LOOP, ("shared", 3), (2, 1)), settles(LOOP, ("shared", 3), (2, 1)), total_errors(LOOP, ("shared", 3), (2, 1), 10 ** 18), last_error(LOOP, ("shared", 3), (2, 1)))
(0, 2, 5, 5)
"""

SECTION_12 = """
>>> from pastenough.fixed import best_table, fewest_errors, forced, shows_forced, table_errors
>>> (fewest_errors(LOOP, ("shared", 2)), forced(LOOP, ("shared", 2)), [table_errors(LOOP, ("shared", 2), some) for some in ((), best_table(LOOP, ("shared", 2)))])
(1, ((2, 3),), [3, 1])
>>> (fewest_errors(PAIR, ("shared", 1)), shows_forced(PAIR, ("shared", 1), ((0, 3),)), shows_forced(PAIR, ("shared", 1), ((0, 3), (0, 3))))
(2, True, False)
"""

SECTION_13 = """
>>> from pastenough.budgets import cells_used, compared, leanest, profile, shortest_within
>>> (profile(LOOP, "shared", 3), shortest_within(LOOP, "shared", 1), cells_used(LOOP, ("shared", 2)), leanest(PAIR, 0), leanest(PAIR, 2), compared(LOOP, (2, 1), ("shared", 0), ("shared", 3)))
((1, 1, 1, 0), 0, 3, ('own', 1), ('shared', 0), 1)
"""

SECTION_14 = """
>>> from pastenough.patterns import count_patterns, full_count, full_pattern, patterns, primitive_count
>>> ([count_patterns(4, length) for length in range(4)], list(patterns(3, 0)), len(list(patterns(3, 2))), primitive_count(4))
([2, 4, 8, 16], [(0, 0, 0), (1, 1, 1)], 6, 12)
>>> (len(full_pattern(5)), [full_count(length) for length in (1, 2, 3, 4, 5)])
(32, [1, 1, 2, 16, 2048])
"""

SECTION_15 = """
>>> from pastenough.ways import is_way, leads_to, pattern_of, way_of, ways_count
>>> (leads_to("011"), way_of((1, 1, 1, 0), 3), pattern_of(("110", "101", "011", "111")), is_way(2, ("01", "11", "10")), [ways_count(2, nodes) for nodes in range(1, 6)])
(('110', '111'), ('110', '101', '011', '111'), (1, 1, 1, 0), True, [2, 1, 2, 1, 0])
"""

SECTION_16 = """
>>> from pastenough.folding import harmful, least_bits, meetings
>>> (meetings(PAIR, 1, 1), harmful(PAIR, 1, 1), harmful(PAIR, 2, 1), least_bits(PAIR, 1), least_bits(PAIR, 2), least_bits(LOOP, 2))
(((0, 1), (2, 3)), (), ((0, 2), (0, 3), (1, 2), (1, 3)), 1, 2, None)
"""

SECTION_17 = """
>>> from pastenough.weaving import rounds_in, woven
>>> (woven(((0, 1), (0, 0)), ((0, 1),)), rounds_in(((0, 1), (0, 0)), ((0, 1),)))
(((0, 1), (1, 1), (0, 0), (1, 1)), (1, 2))
"""

SECTION_18 = """
>>> from pastenough.live import Predictor, tried
>>> predictor = Predictor(("shared", 2), (2, 1))
>>> (predictor.predict(0), predictor(0, 1), predictor.learn(0, 1), predictor.history(0), predictor["00"], "11" in predictor, len(predictor), predictor.errors)
(0, False, False, '11', 2, False, 2, 2)
>>> (tried(predictor, lambda one: one.learn_all(LOOP, 2)), predictor.undo(), predictor.learned, predictor.history(0))
(4, (0, 1), ((0, 1),), '01')
"""

# Its report has line feeds, which its string shows by a backslash each.
SECTION_19 = r"""
>>> from pastenough.texts import read_scheme, read_trace, report, show_counter, show_pattern, show_trace
>>> (show_trace(PAIR), show_pattern((1, 1, 1, 0)), show_counter((2, 1)), read_trace("0:1 0:0"), read_scheme("folded 5 3"), report(LOOP, ("shared", 0), (2, 1), 2))
('0:1 1:1 0:0 1:0', '1110', '2 1', ((0, 1), (0, 0)), ('folded', 5, 3), '   0   2\n   1   1')
"""

SECTION_20 = """
>>> from pastenough.desk import Desk
>>> desk = Desk()
>>> (desk.say("pattern 1110"), desk.say("scheme shared 2"), desk.say("sure"), desk.say("least shared"), desk.say("steady"), desk.say("fewest"), desk.say("leanest 0"))
('done', 'done', 'no 2 3', '3', '2', '1', 'own 3')
"""


class ExamplesTest(unittest.TestCase):
    def check(self, text, number):
        """Runs a text of so many examples; each has to give just what stands below it."""
        example = doctest.DocTestParser().get_doctest(text, {}, "examples", None, 0)
        told = []
        results = doctest.DocTestRunner(verbose=False).run(example, out=told.append)
        self.assertEqual((results.failed, results.attempted), (0, number), "".join(told))

    def test_section_5(self):
        self.check(NAMES + SECTION_5, 5)

    def test_section_6(self):
        self.check(NAMES + SECTION_6, 5)

    def test_section_7(self):
        self.check(NAMES + SECTION_7, 5)

    def test_section_8(self):
        self.check(NAMES + SECTION_8, 5)

    def test_section_9(self):
        self.check(NAMES + SECTION_9, 5)

    def test_section_10(self):
        self.check(NAMES + SECTION_10, 5)

    def test_section_11(self):
        self.check(NAMES + SECTION_11, 5)

    def test_section_12(self):
        self.check(NAMES + SECTION_12, 5)

    def test_section_13(self):
        self.check(NAMES + SECTION_13, 4)

    def test_section_14(self):
        self.check(NAMES + SECTION_14, 5)

    def test_section_15(self):
        self.check(NAMES + SECTION_15, 4)
        with self.assertRaises(TooShort) as caught:
            way_of((1, 1, 1, 0), 2)
        self.assertEqual(caught.exception.reach, 3)

    def test_section_16(self):
        self.check(NAMES + SECTION_16, 4)

    def test_section_17(self):
        self.check(NAMES + SECTION_17, 4)

    def test_section_18(self):
        self.check(NAMES + SECTION_18, 6)

    def test_section_19(self):
        self.check(NAMES + SECTION_19, 4)

    def test_section_20(self):
        self.check(NAMES + SECTION_20, 5)

    def test_readme(self):
        text = README.read_text(encoding="utf-8").split("```")[1]
        self.check(text, 30)


if __name__ == "__main__":
    unittest.main()
