"""The predictions and the errors of a predictor in the first rounds."""

from pastenough.counters import predicted, value_after
from pastenough.histories import cell_of, owner_of, pushed
from pastenough.traces import branches


def errors_in(trace, scheme, counter, rounds):
    """The number of errors in the first rounds."""
    return len(wrong_moments(trace, scheme, counter, rounds))


def errors_by_branch(trace, scheme, counter, rounds):
    """The ascending tuple of (branch, errors) for all branches of a trace."""
    wrong = [trace[moment % len(trace)][0] for moment in wrong_moments(trace, scheme, counter, rounds)]
    return tuple([(branch, wrong.count(branch)) for branch in branches(trace)])


def errors_by_round(trace, scheme, counter, rounds):
    """The list of the errors in each of the first rounds."""
    errors = [0] * rounds
    for moment in wrong_moments(trace, scheme, counter, rounds):
        errors[moment // len(trace)] += 1
    return errors


def predictions(trace, scheme, counter, rounds):
    """The triples (branch, prediction, outcome) of all moments of the first rounds, in sequence."""
    bits, first = counter
    histories = {}
    values = {}
    for moment in range(rounds * len(trace)):
        branch, outcome = trace[moment % len(trace)]
        owner = owner_of(scheme, branch)
        history = histories.get(owner, "0" * scheme[1])
        cell = cell_of(scheme, branch, history)
        value = values.get(cell, first)
        yield (branch, predicted(bits, value), outcome)
        values[cell] = value_after(bits, value, outcome)
        histories[owner] = pushed(history, outcome)


def wrong_moments(trace, scheme, counter, rounds):
    """The ascending list of the moments of all errors in the first rounds."""
    told = []
    for moment, (branch, prediction, outcome) in enumerate(predictions(trace, scheme, counter, rounds)):
        if prediction != outcome:
            told.append(moment)
    return told
