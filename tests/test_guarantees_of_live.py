"""Guarantees (g), its second sentence, and (h), beside a plain simulation; and how all modules go together."""

import itertools
import unittest

from pastenough.budgets import cells_used, leanest
from pastenough.desk import Desk
from pastenough.errors import NothingToUndo, TooLong, TooManyBranches
from pastenough.far import steady_errors, total_errors
from pastenough.fixed import fewest_errors
from pastenough.live import Predictor, tried
from pastenough.running import errors_by_branch, errors_in, predictions
from pastenough.texts import (
    read_counter, read_pattern, read_scheme, read_trace, report, show_counter, show_pattern, show_scheme, show_trace,
)
from pastenough.traces import branches, is_trace, trace_of
from pastenough.weaving import rounds_in, woven
from tests.live_samples import COUNTERS, LiveTest
from tests.model import ToldPredictor, told_clashes, told_for_ever, told_run, told_steady_cells, told_wrong
from tests.samples import LOOP, PAIR, TRACES, ExactTest, cases, random_traces, schemes_of


def all_traces(size, some_branches):
    pairs = itertools.product(some_branches, (0, 1))
    return list(itertools.product(pairs, repeat=size))


TINY = [trace for size in (1, 2) for trace in all_traces(size, (0, 1))]
SMALL = TINY + all_traces(3, (2,)) + all_traces(3, (0, 3))[::5] + [LOOP, PAIR]
LARGE = TRACES + tuple(random_traces(41, 10))
SOME_COUNTERS = ((1, 0), (2, 1), (2, 2), (4, 9))


def woven_pairs(traces):
    """All pairs of the traces that may be woven, each with the woven trace."""
    made = []
    for one, other in itertools.product(traces, repeat=2):
        try:
            made.append((one, other, woven(one, other)))
        except (TooLong, TooManyBranches):
            continue
    return made


class WovenErrorsTest(ExactTest):
    """Guarantee (g), its second sentence."""

    def check(self, one, other, both, scheme, counter):
        some, more = rounds_in(one, other)
        with self.subTest(one=one, other=other, scheme=scheme, counter=counter):
            self.assertTrue(is_trace(both))
            for rounds in (0, 1, 2, 5):
                alone = [told_run(one, scheme, counter, rounds * some), told_run(other, scheme, counter, rounds * more)]
                wrong = sum(told_wrong(row) for rows in alone for row in rows)
                self.same(errors_in(both, scheme, counter, rounds), wrong)
            by_branch = errors_by_branch(one, scheme, counter, 5 * some)
            shift = branches(one)[-1] + 1
            moved = [(branch + shift, errors) for branch, errors in errors_by_branch(other, scheme, counter, 5 * more)]
            self.same(errors_by_branch(both, scheme, counter, 5), by_branch + tuple(moved))
            steady = some * steady_errors(one, scheme, counter) + more * steady_errors(other, scheme, counter)
            self.same(steady_errors(both, scheme, counter), steady)

    def test_small_traces(self):
        for one, other, both in woven_pairs(SMALL):
            for scheme in (("own", 0), ("own", 1), ("own", 2)):
                self.check(one, other, both, scheme, (2, 1))

    def test_all_counters(self):
        for one, other, both in woven_pairs((LOOP, PAIR, ((0, 0),), ((1, 1), (0, 0), (1, 0)))):
            for counter in COUNTERS:
                self.check(one, other, both, ("own", 1), counter)

    def test_larger_traces(self):
        made = woven_pairs(LARGE)
        self.assertGreater(len(made), 20)
        for one, other, both in made:
            for length in (3, 64):
                self.check(one, other, both, ("own", length), (3, 2))

    def test_very_many_rounds(self):
        for one, other, both in woven_pairs(SMALL[::3]):
            some, more = rounds_in(one, other)
            for scheme in (("own", 0), ("own", 2)):
                rounds = 10 ** 17
                alone = total_errors(one, scheme, (2, 1), rounds * some)
                alone += total_errors(other, scheme, (2, 1), rounds * more)
                self.same(total_errors(both, scheme, (2, 1), rounds), alone)

    def test_other_words_do_disturb(self):
        one, other = ((0, 1), (0, 0)), ((0, 1), (0, 1), (0, 0))
        both = woven(one, other)
        alone = 3 * steady_errors(one, ("shared", 2), (2, 1)) + 2 * steady_errors(other, ("shared", 2), (2, 1))
        self.assertNotEqual(steady_errors(both, ("shared", 2), (2, 1)), alone)


class LiveErrorsTest(LiveTest):
    """Guarantee (h), its first sentence."""

    def check(self, trace, scheme, counter, rounds):
        predictor = Predictor(scheme, counter)
        model = ToldPredictor(scheme, counter)
        triples = []
        wrong = 0
        with self.subTest(trace=trace, scheme=scheme, counter=counter):
            for number in range(rounds):
                self.same((predictor.errors, errors_in(trace, scheme, counter, number)), (wrong, wrong))
                row = model.run(trace)
                wrong += told_wrong(row)
                for branch, prediction, outcome in row:
                    self.same(predictor.predict(branch), prediction)
                    triples.append((branch, predictor.predict(branch), outcome))
                    self.same(predictor.learn(branch, outcome), prediction == outcome)
            self.same(list(predictions(trace, scheme, counter, rounds)), triples)
            other = Predictor(scheme, counter)
            self.same(other.learn_all(trace, rounds), errors_in(trace, scheme, counter, rounds))
            self.same((other.errors, predictor.errors, other == predictor), (wrong, wrong, True))
            lines = report(trace, scheme, counter, rounds).split("\n")
            self.same(sum(int(line[4:]) for line in lines), wrong)

    def test_traces_of_one_and_two_pairs(self):
        for trace, scheme in cases(TINY, (0, 1, 2)):
            for counter in SOME_COUNTERS:
                self.check(trace, scheme, counter, 6)

    def test_larger_traces(self):
        for trace, scheme in cases(SMALL[len(TINY):] + list(LARGE[:9]), (0, 2, 64)):
            self.check(trace, scheme, (2, 2), 3)

    def test_all_counters(self):
        for counter in COUNTERS:
            for scheme in schemes_of(1):
                self.check(PAIR, scheme, counter, 9)

    def test_a_sure_scheme_errs_no_more_behind_its_settling(self):
        for trace, scheme in cases(SMALL, (0, 1, 3)):
            predictor = Predictor(scheme, (2, 1))
            predictor.learn_all(trace, scheme[1] + 6)
            late = predictor.learn_all(trace, 3)
            self.same(late == 0, not told_clashes(trace, scheme))
            self.same(late, 3 * steady_errors(trace, scheme, (2, 1)))


class UndoTest(LiveTest):
    """Guarantee (h): undo restores everything."""

    def check(self, pairs, scheme, counter):
        predictor = Predictor(scheme, counter)
        behind = [predictor.copy()]
        for branch, outcome in pairs:
            predictor.learn(branch, outcome)
            behind.append(predictor.copy())
        for left in reversed(range(len(pairs))):
            self.same(predictor.undo(), pairs[left])
            self.assertTrue(predictor == behind[left])
            self.same_state(predictor, scheme, counter, pairs[:left])
        with self.assertRaises(NothingToUndo):
            predictor.undo()

    def test_small_traces(self):
        for trace in TINY[::3] + [LOOP, PAIR]:
            for scheme in schemes_of(0)[:4] + schemes_of(2):
                self.check(trace * 3, scheme, (2, 1))

    def test_other_counters(self):
        for counter in ((1, 1), (3, 0), (4, 15)):
            self.check(PAIR * 4, ("folded", 2, 1), counter)

    def test_trials_of_all_small_traces(self):
        for scheme in schemes_of(2):
            predictor = Predictor(scheme, (2, 1))
            predictor.learn_all(PAIR, 2)
            for trace in SMALL:
                model = ToldPredictor(scheme, (2, 1))
                told = [told_wrong(model.run(some)) for some in (PAIR, PAIR, trace, trace)]
                self.same(tried(predictor, lambda one: one.learn_all(trace, 2)), sum(told[2:]))
            self.same_state(predictor, scheme, (2, 1), PAIR * 2)


class TextsTest(ExactTest):
    """Guarantee (h): texts are read back unchanged."""

    def test_traces(self):
        for trace in SMALL + list(LARGE):
            self.same(read_trace(show_trace(trace)), trace)
        for one, other, both in woven_pairs(SMALL[::5]):
            self.same(read_trace(show_trace(both)), both)

    def test_patterns(self):
        for size in range(1, 10):
            for pattern in itertools.product((0, 1), repeat=size):
                self.same(read_pattern(show_pattern(pattern)), pattern)

    def test_schemes_and_counters(self):
        for scheme in (scheme for length in range(65) for scheme in schemes_of(length)):
            self.same(read_scheme(show_scheme(scheme)), scheme)
        for counter in COUNTERS:
            self.same(read_counter(show_counter(counter)), counter)


class DeskTest(ExactTest):
    """Guarantee (h): a desk answers as the functions do, and both as the simulation does."""

    def told(self, trace, scheme, counter):
        """The answers of the simulation, which runs until its state repeats."""
        rounds, _ = told_for_ever(trace, scheme, counter)
        wrong = [prediction != outcome for row in rounds for _, prediction, outcome in row]
        steady = told_wrong(rounds[-1])
        last = max([at for at, is_wrong in enumerate(wrong) if is_wrong], default=None)
        clashes = told_clashes(trace, scheme)
        later = (10 ** 18 - len(rounds)) * steady
        bits = [bits for bits in range(17) if not told_clashes(trace, ("folded", scheme[1], bits))]
        lengths = {word: [length for length in range(9) if not told_clashes(trace, (word, length))]
                   for word in ("own", "split", "shared")}
        return {
            "sure": "no " + " ".join(str(place) for place in clashes[0]) if clashes else "yes",
            "steady": str(steady),
            "last": "never ends" if steady else "none" if last is None else str(last),
            "cells": str(len(set(told_steady_cells(trace, scheme)))),
            "fewest": str(told_fewest(trace, scheme)),
            "bits": str(bits[0]) if bits else "none",
            "errors 0": "0",
            "errors 1": str(told_wrong(rounds[0])),
            "errors 1000000000000000000": str(sum(wrong) + later),
            **{"least " + word: str(some[0]) for word, some in lengths.items()},
        }

    def check(self, trace, scheme, counter):
        desk = Desk()
        for line in ("trace " + show_trace(trace), "scheme " + show_scheme(scheme), "counter " + show_counter(counter)):
            self.same(desk.say(line), "done")
        for line, answer in self.told(trace, scheme, counter).items():
            with self.subTest(line=line, trace=trace, scheme=scheme, counter=counter):
                self.same(desk.say(line), answer)
        for errors in (0, 1, 2, 64):
            lean = read_scheme(desk.say("leanest " + str(errors)))
            self.same(lean, leanest(trace, errors))
            self.assertLessEqual(fewest_errors(trace, lean), errors)
            self.assertLessEqual(cells_used(trace, lean), len(trace))

    def test_small_traces(self):
        for trace, scheme in cases(SMALL, (0, 1, 2)):
            self.check(trace, scheme, (2, 1))

    def test_all_counters(self):
        for counter in COUNTERS:
            for scheme in (("shared", 0), ("own", 1), ("folded", 2, 1)):
                self.check(LOOP, scheme, counter)

    def test_patterns(self):
        for size in range(1, 6):
            for pattern in itertools.product((0, 1), repeat=size):
                desk, other = Desk(), Desk()
                self.same(desk.say("pattern " + show_pattern(pattern)), "done")
                self.same(other.say("trace " + show_trace(trace_of(pattern))), "done")
                for line in ("sure", "least shared", "errors 7", "steady", "fewest", "last", "bits", "leanest 0"):
                    self.same(desk.say(line), other.say(line))


def told_fewest(trace, scheme):
    """The positions of each cell that have the rarer outcome of the cell."""
    cells = told_steady_cells(trace, scheme)
    outcomes = [[outcome for cell, (_, outcome) in zip(cells, trace) if cell == some] for some in set(cells)]
    return sum(min(some.count(0), some.count(1)) for some in outcomes)


if __name__ == "__main__":
    unittest.main()
