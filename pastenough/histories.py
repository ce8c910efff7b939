"""Histories and cells, at a moment and steady."""

from pastenough.traces import all_outcomes, outcomes_of


def history_at(trace, scheme, moment):
    """The history of a scheme at a moment."""
    rounds, position = divmod(moment, len(trace))
    if scheme[0] == "own":
        branch = trace[position][0]
        outcomes = outcomes_of(trace, branch)
        passed = rounds * len(outcomes) + _times(trace[:position], branch)
    else:
        outcomes = all_outcomes(trace)
        passed = moment
    return _newest(outcomes, passed, scheme[1])


def cell_at(trace, scheme, moment):
    """The cell of a scheme at a moment."""
    branch = trace[moment % len(trace)][0]
    return cell_of(scheme, branch, history_at(trace, scheme, moment))


def steady_history(trace, scheme, position):
    """The steady history of a position."""
    return history_at(trace, scheme, _steady_moment(trace, scheme, position))


def steady_cells(trace, scheme):
    """The tuple of the steady cells of all positions."""
    moments = [_steady_moment(trace, scheme, position) for position in range(len(trace))]
    return tuple([cell_at(trace, scheme, moment) for moment in moments])


def steady_from(trace, scheme):
    """The least number of a round from which on all histories are the steady ones."""
    steady = [steady_history(trace, scheme, position) for position in range(len(trace))]
    number = 0
    # A round behind a steady one is steady, too: its histories hold no more zeros from ahead of the moment 0.
    while _histories_in(trace, scheme, number) != steady:
        number += 1
    return number


def fold(history, bits, branch):
    """The cell of a folded scheme, for a history and a branch."""
    if bits < 1:
        # Pieces without digits would never use up the number.
        return 0
    size = 1 << bits
    number = _binary(history)
    cell = branch % size
    while number > 0:
        number, piece = divmod(number, size)
        cell = cell ^ piece
    return cell


def cell_of(scheme, branch, history):
    """The cell of a branch and a history."""
    if scheme[0] == "folded":
        return fold(history, scheme[2], branch)
    if scheme[0] == "shared":
        return history
    return (branch, history)


def owner_of(scheme, branch):
    """The branch whose outcomes make the history, None for the outcomes of all branches."""
    return branch if scheme[0] == "own" else None


def pushed(history, outcome):
    """The history behind an outcome: the oldest one goes."""
    return (history + str(outcome))[1:]


def _times(pairs, branch):
    return len([other for other, outcome in pairs if other == branch])


def _newest(outcomes, passed, length):
    """The last length ones of so many passed outcomes, which repeat without end; zeros where none have passed."""
    # A length somewhat below 0 is taken as 0: from the end of a string Python would count the other way.
    known = max(0, min(passed, length))
    start = (passed - known) % len(outcomes)
    digits = "".join([str(outcome) for outcome in outcomes])
    enough = digits * (known // len(digits) + 2)
    return "0" * (length - known) + enough[start:start + known]


def _steady_moment(trace, scheme, position):
    # Each branch of a trace occurs in each round. So after as many rounds as the history
    # has characters, all of them are outcomes that have occurred.
    return position + scheme[1] * len(trace)


def _histories_in(trace, scheme, number):
    """The histories at all moments of the round of this number."""
    first = number * len(trace)
    return [history_at(trace, scheme, first + position) for position in range(len(trace))]


def _binary(history):
    number = 0
    for digit in history:
        number = 2 * number + int(digit)
    return number
