'''The examples of the document, as they stand there, and those of README.md.'''

import doctest
import unittest
from pathlib import Path

README = Path(__file__).resolve().parent.parent / "README.md"

NAMES = """
>>> LOOP = ((0, 1), (0, 1), (0, 1), (0, 0))
>>> PAIR = ((0, 1), (1, 1), (0, 0), (1, 0))
"""

SECTION_5 = """
>>> from pastenough.traces import branches, is_scheme, is_trace, outcomes_of, root_of, trace_of, turned
>>> (is_trace(LOOP), is_trace(((8, 0),)), is_scheme(("own", 3)), is_scheme(("folded", 3)))
(True, False, True, False)
>>> (branches(PAIR), outcomes_of(PAIR, 1), trace_of((1, 1, 1, 0)) == LOOP, root_of((1, 0, 1, 0)), turned(LOOP, -1))
((0, 1), (1, 0), True, (1, 0), ((0, 0), (0, 1), (0, 1), (0, 1)))
"""

SECTION_6 = """
>>> from pastenough.histories import cell_at, fold, history_at, steady_cells, steady_from
>>> ([history_at(LOOP, ("shared", 2), moment) for moment in range(5)], steady_cells(LOOP, ("shared", 2)), steady_from(LOOP, ("shared", 2)))
(['00', '01', '11', '11', '10'], ('10', '01', '11', '11'), 1)
>>> (steady_cells(PAIR, ("own", 1)), steady_cells(PAIR, ("folded", 1, 1)), fold("10110", 3, 1), cell_at(PAIR, ("split", 1), 1))
(((0, '0'), (1, '0'), (0, '1'), (1, '1')), (0, 0, 1, 1), 5, (1, '1'))
"""

SECTION_7 = """
>>> from pastenough.clashes import clashes, groups, is_sure, shows_clash, table
>>> (groups(LOOP, ("shared", 2)), list(clashes(LOOP, ("shared", 2))), is_sure(LOOP, ("shared", 3)))
((('01', (1,)), ('10', (0,)), ('11', (2, 3))), [(2, 3)], True)
>>> (table(LOOP, ("shared", 3)), table(LOOP, ("shared", 2)), shows_clash(PAIR, ("folded", 2, 1), (0, 2)))
((('011', 1), ('101', 1), ('110', 1), ('111', 0)), None, True)
"""

SECTION_8 = """
>>> from pastenough.lengths import least_length, longest_factor, reach, reason
>>> (least_length(LOOP, "shared"), [least_length(PAIR, word) for word in ("own", "split", "shared")], least_length(PAIR, "folded", bits=1))
(3, [1, 1, 2], 1)
>>> (reason(LOOP, "shared")[0], reason(LOOP, "shared")[2], reach((1, 1, 1, 0)), longest_factor((1, 1, 1, 0)), longest_factor((1, 1)))
(3, (2, 3), 3, (2, 0, 1), None)
"""

SECTION_9 = """
>>> from pastenough.counters import changes, counted, fixed_values, settled_errors, settled_value, value_after, value_map
>>> (value_after(2, 3, 1), counted((2, 1), (1, 1, 1, 0)), value_map(2, (0, 1)), fixed_values(2, (0, 1)))
(3, (2, 2), (1, 1, 2, 3), (1, 2, 3))
>>> ([settled_errors((2, first), (0, 1)) for first in range(4)], settled_value((2, 0), (0, 1)), changes((0, 1)), changes((1, 1, 1, 0)))
([1, 1, 2, 1], 1, 2, 2)
"""


class ExamplesTest(unittest.TestCase):
    def check(self, text, number):
        """Runs a text of so many examples; each has to give just what stands below it."""
        example = doctest.DocTestParser().get_doctest(text, {}, "examples", None, 0)
        told = []
        results = doctest.DocTestRunner(verbose=False).run(example, out=told.append)
        self.assertEqual((results.failed, results.attempted), (0, number), "".join(told))

    def test_section_5(self):
        self.check(NAMES + SECTION_5, 5)

    def test_section_6(self):
        self.check(NAMES + SECTION_6, 5)

    def test_section_7(self):
        self.check(NAMES + SECTION_7, 5)

    def test_section_8(self):
        self.check(NAMES + SECTION_8, 5)

    def test_section_9(self):
        self.check(NAMES + SECTION_9, 5)

    def test_readme(self):
        text = README.read_text(encoding="utf-8").split("```")[1]
        self.check(text, 9)


if __name__ == "__main__":
    unittest.main()
