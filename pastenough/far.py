"""The errors in all rounds, however many they are."""

from pastenough.counters import most_value
from pastenough.running import errors_by_round, wrong_moments


def steady_errors(trace, scheme, counter):
    """The errors in each round from some round on."""
    return _early_errors(trace, scheme, counter)[-1]


def settles(trace, scheme, counter):
    """The least number of a round from which on each round has as many errors."""
    errors = _early_errors(trace, scheme, counter)
    number = len(errors) - 1
    while number > 0 and errors[number - 1] == errors[-1]:
        number -= 1
    return number


def total_errors(trace, scheme, counter, rounds):
    """The number of errors in the first rounds, up to 10 ** 18 of them."""
    errors = _early_errors(trace, scheme, counter)
    later = max(0, rounds - len(errors))
    return sum(errors[:max(0, rounds)]) + later * errors[-1]


def last_error(trace, scheme, counter):
    """The moment of the last error, -1 if there is no error, None if errors never end."""
    rounds = _early_rounds(scheme, counter)
    wrong = wrong_moments(trace, scheme, counter, rounds)
    if not wrong:
        return -1
    # The last one of these rounds is like all behind it.
    if wrong[-1] >= (rounds - 1) * len(trace):
        return None
    return wrong[-1]


def _early_rounds(scheme, counter):
    """So many rounds that the last one of them has the errors of each round behind it."""
    # Each branch occurs in each round. So behind as many rounds as the history has characters all histories are steady.
    # From then on the value of a cell moves in one direction only, from round to round, until it stays:
    # a counter of n values makes at most n - 1 such moves, and the round behind them is like all later ones.
    return max(0, scheme[1]) + most_value(counter[0]) + 1


def _early_errors(trace, scheme, counter):
    """The list of the errors in each early round; the last entry holds for all later rounds, too."""
    return errors_by_round(trace, scheme, counter, _early_rounds(scheme, counter))
