'''The examples of the document, as they stand there, and those of README.md.'''

import doctest
import unittest
from pathlib import Path

README = Path(__file__).resolve().parent.parent / "README.md"

NAMES = """
>>> LOOP = ((0, 1), (0, 1), (0, 1), (0, 0))
>>> PAIR = ((0, 1), (1, 1), (0, 0), (1, 0))
"""

SECTION_5 = """
>>> from pastenough.traces import branches, is_scheme, is_trace, outcomes_of, root_of, trace_of, turned
>>> (is_trace(LOOP), is_trace(((8, 0),)), is_scheme(("own", 3)), is_scheme(("folded", 3)))
(True, False, True, False)
>>> (branches(PAIR), outcomes_of(PAIR, 1), trace_of((1, 1, 1, 0)) == LOOP, root_of((1, 0, 1, 0)), turned(LOOP, -1))
((0, 1), (1, 0), True, (1, 0), ((0, 0), (0, 1), (0, 1), (0, 1)))
"""

SECTION_6 = """
>>> from pastenough.histories import cell_at, fold, history_at, steady_cells, steady_from
>>> ([history_at(LOOP, ("shared", 2), moment) for moment in range(5)], steady_cells(LOOP, ("shared", 2)), steady_from(LOOP, ("shared", 2)))
(['00', '01', '11', '11', '10'], ('10', '01', '11', '11'), 1)
>>> (steady_cells(PAIR, ("own", 1)), steady_cells(PAIR, ("folded", 1, 1)), fold("10110", 3, 1), cell_at(PAIR, ("split", 1), 1))
(((0, '0'), (1, '0'), (0, '1'), (1, '1')), (0, 0, 1, 1), 5, (1, '1'))
"""


class ExamplesTest(unittest.TestCase):
    def check(self, text, number):
        """Runs a text of so many examples; each has to give just what stands below it."""
        example = doctest.DocTestParser().get_doctest(text, {}, "examples", None, 0)
        told = []
        results = doctest.DocTestRunner(verbose=False).run(example, out=told.append)
        self.assertEqual((results.failed, results.attempted), (0, number), "".join(told))

    def test_section_5(self):
        self.check(NAMES + SECTION_5, 5)

    def test_section_6(self):
        self.check(NAMES + SECTION_6, 5)

    def test_readme(self):
        text = README.read_text(encoding="utf-8").split("```")[1]
        self.check(text, 5)


if __name__ == "__main__":
    unittest.main()
