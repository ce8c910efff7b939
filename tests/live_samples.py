"""What the tests of live predictors and of their trials share."""

import random

from pastenough.live import Predictor
from tests.model import ToldPredictor, told_cell
from tests.samples import ExactTest

COUNTERS = tuple((bits, first) for bits in (1, 2, 3, 4) for first in range(2 ** bits))


def random_pairs(seed, number, some_branches=range(8)):
    source = random.Random(seed)
    return [(source.choice(some_branches), source.randint(0, 1)) for _ in range(number)]


def told_predictor(scheme, counter, pairs):
    """(predictor, model): both have learned the pairs one by one."""
    predictor, model = Predictor(scheme, counter), ToldPredictor(scheme, counter)
    for branch, outcome in pairs:
        predictor.learn(branch, outcome)
        model.step(branch, outcome)
    return predictor, model


class LiveTest(ExactTest):
    def same_state(self, predictor, scheme, counter, pairs):
        """All that a predictor tells is what a model tells that has learned these pairs."""
        model = ToldPredictor(scheme, counter)
        wrong = sum(model.step(branch, outcome) != outcome for branch, outcome in pairs)
        self.same((predictor.scheme, predictor.counter), (scheme, counter))
        self.same((predictor.errors, predictor.learned), (wrong, tuple(pairs)))
        self.same(len(predictor), len(model.values))
        for cell, value in model.values.items():
            self.same(predictor[cell], value)
            self.same(cell in predictor, True)
        for branch in range(8):
            history = "".join(str(was) for was in model.seen_by(branch))
            cell = told_cell(scheme, branch, history)
            value = model.values.get(cell, counter[1])
            self.same(predictor.history(branch), history)
            self.same(predictor.cell(branch), cell)
            self.same(predictor.predict(branch), 1 if value >= 2 ** (counter[0] - 1) else 0)
            self.same(cell in predictor, cell in model.values)
