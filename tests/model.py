"""Histories, cells, clashes and errors, step by step, as section 3 of the document defines them: slow, and plain."""

import collections
import itertools


def told_histories(trace, scheme, moments):
    """The histories at the first moments, from lists of all that has happened."""
    happened = {}
    told = []
    for moment in range(moments):
        branch, outcome = trace[moment % len(trace)]
        seen = happened.setdefault(branch if scheme[0] == "own" else "all", [])
        zeros = [0] * scheme[1]
        newest = (zeros + seen)[len(seen):]
        told.append("".join(str(was) for was in newest))
        seen.append(outcome)
    return told


def told_rounds(trace, scheme, rounds):
    """The histories of the first rounds, a tuple for each round."""
    size = len(trace)
    told = told_histories(trace, scheme, rounds * size)
    return [tuple(told[size * number:size * (number + 1)]) for number in range(rounds)]


def told_steady(trace, scheme):
    """The steady histories of all positions, looking back from position to position, as if there were no beginning."""
    steady = []
    for position, (branch, _) in enumerate(trace):
        newest_first = []
        back = position
        while len(newest_first) < scheme[1]:
            back = back - 1 if back > 0 else len(trace) - 1
            if scheme[0] != "own" or trace[back][0] == branch:
                newest_first.append(str(trace[back][1]))
        steady.append("".join(reversed(newest_first)))
    return tuple(steady)


def told_steady_from(trace, scheme):
    """The least steady round: one after the last round that has another history."""
    steady = told_steady(trace, scheme)
    # Each branch occurs in each round, so behind as many rounds as the history has characters all rounds are alike.
    rounds = told_rounds(trace, scheme, scheme[1] + 2)
    unlike = [number for number, row in enumerate(rounds) if row != steady]
    return max(unlike) + 1 if unlike else 0


def told_fold(history, bits, branch):
    """The cell of a folded scheme, digit by digit, the lowest one first."""
    digits = [branch // 2 ** place % 2 for place in range(bits)]
    for place, digit in enumerate(reversed(history)):
        if bits > 0 and digit == "1":
            digits[place % bits] = 1 - digits[place % bits]
    return sum(digit * 2 ** place for place, digit in enumerate(digits))


def told_cell(scheme, branch, history):
    """The cell of a branch and a history."""
    if scheme[0] == "folded":
        return told_fold(history, scheme[2], branch)
    return history if scheme[0] == "shared" else (branch, history)


def told_steady_cells(trace, scheme):
    """The steady cells of all positions."""
    return [told_cell(scheme, pair[0], history) for pair, history in zip(trace, told_steady(trace, scheme))]


def told_clashes(trace, scheme):
    """All pairs of positions that clash, from all pairs of positions."""
    cells = told_steady_cells(trace, scheme)
    pairs = itertools.combinations(range(len(trace)), 2)
    return [(one, other) for one, other in pairs if cells[one] == cells[other] and trace[one][1] != trace[other][1]]


def told_value(bits, value, outcome):
    """The value behind an outcome: one step up or down, if there is such a value."""
    moved = value + (1 if outcome == 1 else -1)
    return moved if moved in range(2 ** bits) else value


def told_counted(bits, value, outcomes):
    """The errors of one counter that has these outcomes, and its value behind them."""
    errors = 0
    for outcome in outcomes:
        errors += outcome != (1 if value >= 2 ** (bits - 1) else 0)
        value = told_value(bits, value, outcome)
    return (errors, value)


class ToldPredictor:
    """A predictor that is told pair by pair; it keeps its histories as lists of outcomes."""

    def __init__(self, scheme, counter):
        self.scheme = scheme
        self.bits, self.first = counter
        self.seen = {}
        self.values = {}

    def seen_by(self, branch):
        empty = collections.deque([0] * self.scheme[1], maxlen=self.scheme[1])
        return self.seen.setdefault(branch if self.scheme[0] == "own" else "all", empty)

    def step(self, branch, outcome):
        """The prediction for the branch, ahead of learning its outcome."""
        seen = self.seen_by(branch)
        cell = told_cell(self.scheme, branch, "".join(str(was) for was in seen))
        value = self.values.get(cell, self.first)
        self.values[cell] = told_value(self.bits, value, outcome)
        seen.append(outcome)
        return 1 if value >= 2 ** (self.bits - 1) else 0

    def run(self, trace):
        """The triples (branch, prediction, outcome) of one round."""
        return [(branch, self.step(branch, outcome), outcome) for branch, outcome in trace]

    def state(self):
        """All that the later predictions depend on."""
        return ({key: tuple(seen) for key, seen in self.seen.items()}, dict(self.values))


def told_run(trace, scheme, counter, rounds):
    """The triples (branch, prediction, outcome) of the first rounds, a list for each round."""
    predictor = ToldPredictor(scheme, counter)
    return [predictor.run(trace) for _ in range(rounds)]


def told_wrong(triples):
    """How many of the predictions are errors."""
    return sum(prediction != outcome for _, prediction, outcome in triples)


def told_for_ever(trace, scheme, counter):
    """(rounds, again): the triples of the first rounds, and the number of the one from which on they repeat."""
    predictor = ToldPredictor(scheme, counter)
    states = [predictor.state()]
    rounds = []
    while True:
        rounds.append(predictor.run(trace))
        state = predictor.state()
        if state in states:
            return rounds, states.index(state)
        states.append(state)


def told_reach(pattern):
    """The least length of a shared history without a clash, from the clashes of one length after the other."""
    trace = tuple((0, outcome) for outcome in pattern)
    length = 0
    while told_clashes(trace, ("shared", length)):
        length += 1
    return length


def told_walks(length, most):
    """All ways of a length with at most so many nodes, each one from its least node on, by going from node to node."""
    nodes = ["".join(digits) for digits in itertools.product("01", repeat=length)]
    ways = []
    walks = [[node] for node in nodes]
    while walks:
        walk = walks.pop()
        for sign in "01":
            follower = walk[-1][1:] + sign
            if follower == walk[0]:
                ways.append(tuple(walk))
            elif len(walk) < most and follower > walk[0] and follower not in walk:
                walks.append(walk + [follower])
    return ways
