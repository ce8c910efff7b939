"""Predictor: what it predicts, learns, tells and takes back."""

import copy
import unittest

from pastenough.errors import BadBranch, BadCounter, BadOutcome, BadScheme, NoCell, NothingToUndo, PastError
from pastenough.live import Predictor
from pastenough.running import errors_in
from pastenough.traces import is_branch, is_counter, is_outcome, is_scheme
from tests.live_samples import COUNTERS, LiveTest, random_pairs, told_predictor
from tests.model import told_run, told_wrong
from tests.samples import ANY_VALUES, LOOP, PAIR, TRACES, Unchanged, cases, kinds, random_traces, schemes_of

SOME_SCHEMES = schemes_of(0) + schemes_of(1) + schemes_of(3) + schemes_of(64)
SOME_TRACES = TRACES + tuple(random_traces(26, 6))
BAD_BRANCHES = tuple(value for value in ANY_VALUES if not is_branch(value)) + (-7, 9, (0, "0"), [7], "7", "00")
BAD_OUTCOMES = tuple(value for value in ANY_VALUES if not is_outcome(value)) + (3, "00", [1], (1, 1))


class MakingTest(LiveTest):
    def raises(self, kind, value, scheme, counter):
        with self.subTest(scheme=scheme, counter=counter), Unchanged(self, scheme, counter):
            with self.assertRaises(PastError) as caught:
                Predictor(scheme, counter)
            self.assertIs(type(caught.exception), kind)
            self.assertIs(caught.exception.value, value)
            with self.assertRaises(kind):
                Predictor(counter=counter, scheme=scheme)

    def test_all_counters_and_schemes(self):
        for scheme in SOME_SCHEMES:
            for counter in COUNTERS:
                self.same_state(Predictor(scheme, counter), scheme, counter, [])
        for length in range(65):
            for scheme in schemes_of(length):
                self.same_state(Predictor(counter=(2, 1), scheme=scheme), scheme, (2, 1), [])

    def test_bad_schemes(self):
        for scheme in ANY_VALUES + (("own", 65), ("own", -1), ("folded", 3), ("folded", 3, 17), ("own", True)):
            if not is_scheme(scheme):
                self.raises(BadScheme, scheme, scheme, (2, 1))

    def test_bad_counters(self):
        for counter in ANY_VALUES + ((0, 0), (5, 0), (2, 4), (2, -1), (2, True), (True, 1), [2, 1], (2, 1, 0)):
            if not is_counter(counter):
                self.raises(BadCounter, counter, ("shared", 2), counter)

    def test_the_scheme_is_looked_at_first(self):
        for scheme, counter in ((None, None), ((2, 1), ("own", 3)), (["own", 3], [2, 1]), (("own", 65), (2, 4))):
            self.raises(BadScheme, scheme, scheme, counter)


class AskingTest(LiveTest):
    def test_plain_answers(self):
        predictor = Predictor(("own", 3), (1, 0))
        self.same((predictor.predict(0), predictor.history(5), predictor.cell(5)), (0, "000", (5, "000")))
        predictor.learn(5, 1)
        self.same((predictor.history(5), predictor.history(4)), ("001", "000"))
        self.same((predictor.predict(5), predictor.predict(4)), (0, 0))
        predictor.learn_all(((5, 1),), 3)
        self.same((predictor.history(5), predictor.predict(5), predictor.predict(4)), ("111", 1, 0))
        self.same(Predictor(("folded", 3, 2), (1, 1)).cell(7), 3)
        self.same(Predictor(("folded", 64, 0), (1, 1)).cell(7), 0)
        self.same(Predictor(("shared", 0), (4, 8)).predict(7), 1)

    def test_arguments_by_name(self):
        predictor = Predictor(("split", 2), (2, 2))
        self.same(predictor.predict(branch=3), 1)
        self.same(predictor.history(branch=3), "00")
        self.same(predictor.cell(branch=3), (3, "00"))

    def test_any_branch(self):
        for scheme in schemes_of(2):
            predictor = told_predictor(scheme, (2, 1), PAIR)[0]
            for ask in (predictor.predict, predictor.history, predictor.cell):
                for value in BAD_BRANCHES:
                    with self.subTest(scheme=scheme, value=value), Unchanged(self, value):
                        with self.assertRaises(BadBranch) as caught:
                            ask(value)
                        self.assertIs(caught.exception.value, value)
                        with self.assertRaises(BadBranch):
                            ask(branch=value)
            self.same_state(predictor, scheme, (2, 1), PAIR)

    def test_asking_changes_nothing(self):
        predictor = told_predictor(("own", 2), (2, 1), PAIR)[0]
        for branch in range(8):
            self.same([predictor.predict(branch), predictor.history(branch), predictor.cell(branch)],
                      [predictor.predict(branch), predictor.history(branch), predictor.cell(branch)])
        self.same_state(predictor, ("own", 2), (2, 1), PAIR)


class LearningTest(LiveTest):
    def check(self, scheme, counter, pairs, every):
        """Learns pair by pair, and looks at all of the predictor behind every so many pairs."""
        predictor = Predictor(scheme, counter)
        for number, (branch, outcome) in enumerate(pairs):
            expected = predictor.predict(branch)
            was_right = predictor(branch, outcome) if number % 2 else predictor.learn(branch, outcome)
            self.same(was_right, expected == outcome)
            if number % every == 0:
                self.same_state(predictor, scheme, counter, pairs[:number + 1])
        self.same_state(predictor, scheme, counter, pairs)

    def test_plain_learning(self):
        predictor = Predictor(("shared", 2), (2, 1))
        self.same((predictor(0, 1), predictor.learn(0, 1)), (False, False))
        self.same((predictor["00"], predictor["01"], len(predictor), predictor.errors), (2, 2, 2, 2))
        self.same(predictor.learned, ((0, 1), (0, 1)))
        self.same((predictor.learn(7, 1), predictor.learn(7, 1), predictor["11"]), (False, True, 3))

    def test_all_schemes_and_counters(self):
        for scheme in SOME_SCHEMES:
            self.check(scheme, (2, 1), random_pairs(27, 60), 7)
        for counter in COUNTERS:
            self.check(("shared", 1), counter, random_pairs(28, 60, (0, 1)), 20)
            self.check(("folded", 2, 1), counter, random_pairs(29, 60, (0, 5)), 20)

    def test_a_short_run_at_each_step(self):
        for scheme in SOME_SCHEMES:
            self.check(scheme, (1, 1), random_pairs(30, 12, (0, 3)), 1)

    def test_any_branch_and_outcome(self):
        for scheme in (("own", 1), ("folded", 2, 1)):
            predictor = told_predictor(scheme, (2, 1), PAIR)[0]
            for learn in (predictor.learn, predictor):
                for value in BAD_BRANCHES:
                    for outcome in (0, 1, 2, None, [], True):
                        self.refused(learn, BadBranch, value, value, outcome)
                for value in BAD_OUTCOMES:
                    self.refused(learn, BadOutcome, value, 7, value)
            self.same_state(predictor, scheme, (2, 1), PAIR)

    def refused(self, learn, kind, value, branch, outcome):
        with self.subTest(branch=branch, outcome=outcome), Unchanged(self, branch, outcome):
            with self.assertRaises(PastError) as caught:
                learn(branch, outcome)
            self.assertIs(type(caught.exception), kind)
            self.assertIs(caught.exception.value, value)

    def test_arguments_by_name(self):
        predictor = Predictor(("shared", 0), (1, 0))
        self.same((predictor.learn(outcome=1, branch=3), predictor(outcome=1, branch=4)), (False, True))
        self.same(predictor.learn_all(rounds=2, trace=((0, 0), (1, 0))), 1)
        self.same(predictor.learned, ((3, 1), (4, 1), (0, 0), (1, 0), (0, 0), (1, 0)))


class LearnAllTest(LiveTest):
    def test_no_rounds_one_and_three_hundred(self):
        for trace in (LOOP, PAIR, ((7, 1),), TRACES[7]):
            for scheme in schemes_of(2):
                for rounds in (0, 1, 300):
                    predictor = Predictor(scheme, (2, 1))
                    self.same(predictor.learn_all(trace, rounds), errors_in(trace, scheme, (2, 1), rounds))
                    self.same_state(predictor, scheme, (2, 1), trace * rounds)
        predictor = Predictor(("folded", 64, 16), (4, 3))
        self.same(predictor.learn_all(TRACES[15], 300), errors_in(TRACES[15], ("folded", 64, 16), (4, 3), 300))
        self.same(len(predictor.learned), 19200)

    def test_only_the_errors_among_these_pairs(self):
        predictor = Predictor(("shared", 0), (2, 1))
        self.same([predictor.learn_all(LOOP, 1) for _ in range(3)], [2, 1, 1])
        self.same(predictor.errors, 4)
        self.same(predictor.learn_all(LOOP, 0), 0)
        self.same(predictor.errors, 4)

    def test_all_traces(self):
        for trace, scheme in cases(SOME_TRACES, (0, 2, 64)):
            predictor = Predictor(scheme, (3, 4))
            rows = told_run(trace, scheme, (3, 4), 3)
            with self.subTest(trace=trace, scheme=scheme):
                self.same(predictor.learn_all(trace, 2), told_wrong(rows[0] + rows[1]))
                self.same(predictor.learn_all(trace, 1), told_wrong(rows[2]))
                self.same(predictor.errors, told_wrong(rows[0] + rows[1] + rows[2]))
                self.same(predictor.learned, trace * 3)

    def test_behind_other_pairs(self):
        predictor = Predictor(("own", 2), (2, 1))
        predictor.learn(1, 1)
        predictor.learn_all(PAIR, 2)
        predictor.learn(5, 0)
        self.same_state(predictor, ("own", 2), (2, 1), ((1, 1),) + PAIR * 2 + ((5, 0),))


class UndoTest(LiveTest):
    def test_plain_undo(self):
        predictor = Predictor(("shared", 2), (2, 1))
        predictor.learn(0, 1)
        predictor.learn(3, 0)
        self.same((predictor.undo(), predictor.learned, predictor.history(0)), ((3, 0), ((0, 1),), "01"))
        self.same((predictor.undo(), predictor.learned, predictor.history(0)), ((0, 1), (), "00"))
        self.same((len(predictor), predictor.errors, "00" in predictor), (0, 0, False))

    def test_nothing_to_undo(self):
        for scheme in schemes_of(1):
            predictor = Predictor(scheme, (2, 1))
            for _ in range(2):
                with self.assertRaises(NothingToUndo):
                    predictor.undo()
                self.same_state(predictor, scheme, (2, 1), [])

    def test_until_nothing_is_left(self):
        for scheme in SOME_SCHEMES:
            for counter in ((1, 0), (4, 9)):
                pairs = random_pairs(31, 40, (0, 1, 6))
                predictor = told_predictor(scheme, counter, pairs)[0]
                for left in reversed(range(len(pairs))):
                    self.same(predictor.undo(), pairs[left])
                    if left % 6 == 0 or left < 4:
                        self.same_state(predictor, scheme, counter, pairs[:left])
                with self.assertRaises(NothingToUndo):
                    predictor.undo()
                predictor.learn_all(PAIR, 2)
                self.same_state(predictor, scheme, counter, PAIR * 2)

    def test_three_hundred_rounds_taken_back(self):
        predictor = Predictor(("folded", 9, 3), (2, 1))
        predictor.learn(2, 1)
        predictor.learn_all(TRACES[10], 300)
        for _ in range(300 * len(TRACES[10])):
            predictor.undo()
        self.same_state(predictor, ("folded", 9, 3), (2, 1), [(2, 1)])

    def test_taken_back_and_learned_again(self):
        for scheme in SOME_SCHEMES:
            pairs = random_pairs(32, 30, (0, 1))
            predictor = told_predictor(scheme, (3, 3), pairs)[0]
            for _ in range(10):
                predictor.undo()
            predictor.learn_all(LOOP, 3)
            for _ in range(6):
                predictor.undo()
            self.same_state(predictor, scheme, (3, 3), pairs[:20] + list(LOOP * 3)[:6])


class PropertiesTest(LiveTest):
    def test_they_are_read_only(self):
        predictor = told_predictor(("own", 1), (2, 1), PAIR)[0]
        for name in ("scheme", "counter", "errors", "learned"):
            self.assertIsInstance(getattr(Predictor, name), property)
            for value in (None, 0, (), ("own", 1)):
                with self.assertRaises(AttributeError):
                    setattr(predictor, name, value)
            with self.assertRaises(AttributeError):
                delattr(predictor, name)
        self.same_state(predictor, ("own", 1), (2, 1), PAIR)

    def test_what_was_learned_is_a_tuple_of_its_own(self):
        predictor = told_predictor(("own", 1), (2, 1), PAIR)[0]
        before = predictor.learned
        predictor.learn(0, 1)
        self.same(before, PAIR)
        predictor.undo()
        predictor.undo()
        self.same((before, predictor.learned), (PAIR, PAIR[:3]))


class CellsTest(LiveTest):
    def check_values(self, predictor, right, values):
        right_kinds = [kinds(cell) for cell in right]
        for value in values:
            with self.subTest(value=value), Unchanged(self, value):
                is_cell = kinds(value) in right_kinds
                self.same(value in predictor, is_cell)
                if is_cell:
                    self.assertIs(type(predictor[value]), int)
                    continue
                with self.assertRaises(NoCell) as caught:
                    predictor[value]
                self.assertIs(caught.exception.value, value)

    def test_any_value(self):
        more = ("000", "00", "01", "11", (0, "0"), (1, "1"), (0, ""), (True, "0"), (False, "0"), (1, "0"), ([0], "0"))
        more += ((0, ["0"]), [0, "0"], (0, 0), ("0", 0), (0, "0", 0), (1, True), {0: "0"}, ((0, "0"),), (0.0, "0"), 1.0)
        for scheme in schemes_of(0) + schemes_of(1) + schemes_of(2):
            for pairs in ([], PAIR, random_pairs(33, 40)):
                predictor, model = told_predictor(scheme, (2, 1), pairs)
                self.check_values(predictor, list(model.values), ANY_VALUES + more + tuple(range(-3, 10)))
                self.same_state(predictor, scheme, (2, 1), pairs)

    def test_a_boolean_is_no_cell(self):
        predictor = told_predictor(("folded", 1, 1), (2, 1), PAIR)[0]
        self.same([value in predictor for value in (0, 1, False, True)], [True, True, False, False])
        predictor = told_predictor(("split", 0), (2, 1), PAIR)[0]
        self.same([(value, "") in predictor for value in (0, 1, False, True)], [True, True, False, False])

    def test_cells_of_other_schemes(self):
        cells = {scheme: list(told_predictor(scheme, (2, 1), PAIR)[1].values) for scheme in schemes_of(1)}
        for scheme, right in cells.items():
            predictor = told_predictor(scheme, (2, 1), PAIR)[0]
            self.check_values(predictor, right, [cell for some in cells.values() for cell in some])

    def test_a_cell_that_is_only_looked_at_is_not_used(self):
        predictor = Predictor(("shared", 2), (2, 1))
        predictor.predict(0)
        self.same(("00" in predictor, predictor.cell(0) in predictor, len(predictor)), (False, False, 0))
        predictor.learn(0, 1)
        self.same(("00" in predictor, "01" in predictor, len(predictor)), (True, False, 1))

    def test_the_number_of_cells(self):
        predictor = Predictor(("folded", 64, 0), (2, 1))
        predictor.learn_all(TRACES[15], 3)
        self.same(len(predictor), 1)
        predictor = Predictor(("own", 0), (2, 1))
        predictor.learn_all(TRACES[9], 3)
        self.same(len(predictor), 8)

    def test_it_cannot_be_iterated_over(self):
        for predictor in (Predictor(("folded", 1, 1), (2, 1)), told_predictor(("folded", 1, 1), (2, 1), PAIR)[0]):
            for walk in (iter, list, tuple, sorted, set, sum, dict, enumerate, zip):
                with self.assertRaises(TypeError):
                    walk(predictor)
            with self.assertRaises(TypeError):
                for _ in predictor:
                    pass
            with self.assertRaises(TypeError):
                one, other = predictor


class CopyTest(LiveTest):
    def test_a_copy_has_learned_the_same(self):
        for scheme in SOME_SCHEMES:
            pairs = random_pairs(34, 25)
            predictor = told_predictor(scheme, (2, 2), pairs)[0]
            other = predictor.copy()
            self.assertIs(type(other), Predictor)
            self.assertIsNot(other, predictor)
            self.assertTrue(other == predictor)
            self.same_state(other, scheme, (2, 2), pairs)

    def test_copies_go_on_by_themselves(self):
        for scheme in SOME_SCHEMES:
            pairs = random_pairs(35, 10, (0, 1))
            predictor = told_predictor(scheme, (2, 2), pairs)[0]
            other = predictor.copy()
            third = other.copy()
            predictor.learn_all(LOOP, 2)
            other.undo()
            other.undo()
            other.learn(1, 0)
            self.same_state(predictor, scheme, (2, 2), pairs + list(LOOP * 2))
            self.same_state(other, scheme, (2, 2), pairs[:8] + [(1, 0)])
            self.same_state(third, scheme, (2, 2), pairs)

    def test_a_copy_takes_back_the_same_pairs(self):
        predictor = told_predictor(("split", 2), (2, 1), PAIR)[0]
        other = predictor.copy()
        self.same([other.undo() for _ in PAIR], list(PAIR[::-1]))
        with self.assertRaises(NothingToUndo):
            other.undo()
        self.same_state(other, ("split", 2), (2, 1), [])
        self.same_state(predictor, ("split", 2), (2, 1), PAIR)
        self.same([predictor.undo() for _ in PAIR], list(PAIR[::-1]))

    def test_a_copy_of_a_new_predictor(self):
        predictor = Predictor(("own", 1), (2, 1))
        other = predictor.copy()
        predictor.learn(0, 1)
        self.same_state(other, ("own", 1), (2, 1), [])


class EqualityTest(LiveTest):
    def check(self, one, other, expected):
        self.same((one == other, other == one, one != other, other != one), (expected, expected, not expected, not expected))

    def test_equal_predictors(self):
        for scheme in SOME_SCHEMES:
            one, other = Predictor(scheme, (2, 1)), Predictor(scheme, (2, 1))
            self.check(one, other, True)
            self.check(one, one, True)
            one.learn_all(PAIR, 2)
            self.check(one, other, False)
            for branch, outcome in PAIR * 2:
                other(branch, outcome)
            self.check(one, other, True)
            other.learn(0, 0)
            self.check(one, other, False)
            other.undo()
            self.check(one, other, True)

    def test_unlike_schemes_and_counters(self):
        one = Predictor(("shared", 2), (2, 1))
        for scheme, counter in (
            (("split", 2), (2, 1)), (("own", 2), (2, 1)), (("shared", 3), (2, 1)), (("shared", 2), (2, 2)),
            (("shared", 2), (3, 1)), (("folded", 2, 2), (2, 1)),
        ):
            other = Predictor(scheme, counter)
            self.check(one, other, False)
        self.check(Predictor(("folded", 2, 2), (2, 1)), Predictor(("folded", 2, 3), (2, 1)), False)

    def test_unlike_pairs(self):
        # With no history and one cell, these pairs leave the same errors, values and histories.
        one = told_predictor(("shared", 0), (1, 0), [(0, 1), (1, 1)])[0]
        for pairs in ([(1, 1), (0, 1)], [(0, 1), (0, 1)], [(0, 1)], [(0, 1), (1, 1), (1, 1)], []):
            self.check(one, told_predictor(("shared", 0), (1, 0), pairs)[0], False)
        self.check(one, told_predictor(("shared", 0), (1, 0), [(0, 1), (1, 1)])[0], True)

    def test_it_equals_nothing_else(self):
        predictor = told_predictor(("own", 1), (2, 1), PAIR)[0]
        for value in ANY_VALUES + (PAIR, list(PAIR), ("own", 1), Predictor, object(), (predictor,), [predictor]):
            self.check(predictor, value, False)

    def test_it_stays_unlike_what_says_that_it_is_equal(self):
        class Anything:
            def __eq__(self, other):
                return True

        self.assertIs(Predictor(("own", 1), (2, 1)) == Anything(), False)

    def test_a_deep_copy_is_equal(self):
        predictor = told_predictor(("own", 1), (2, 1), PAIR)[0]
        other = copy.deepcopy(predictor)
        self.check(predictor, other, True)
        other.undo()
        self.same_state(predictor, ("own", 1), (2, 1), PAIR)


class SomewhatBeyondTest(LiveTest):
    """The interface: no error for what is somewhat beyond a limit."""

    def test_more_and_less(self):
        predictor = Predictor(("own", 1), (1, 0))
        self.same(predictor.learn_all(((0, 1),), 301), 2)
        self.same(predictor.learn_all(((0, 1),), -1), 0)
        self.same(predictor.learn_all(((8, 1),) * 65, 1), 2)
        self.same(((8, "1") in predictor, predictor[(8, "1")]), (True, 1))


if __name__ == "__main__":
    unittest.main()
