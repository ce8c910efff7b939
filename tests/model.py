"""Histories and cells, moment by moment, as section 3 of the document defines them: slow, and plain to read."""


def told_histories(trace, scheme, moments):
    """The histories at the first moments, from lists of all that has happened."""
    happened = {}
    told = []
    for moment in range(moments):
        branch, outcome = trace[moment % len(trace)]
        seen = happened.setdefault(branch if scheme[0] == "own" else "all", [])
        zeros = [0] * scheme[1]
        newest = (zeros + seen)[len(seen):]
        told.append("".join(str(was) for was in newest))
        seen.append(outcome)
    return told


def told_rounds(trace, scheme, rounds):
    """The histories of the first rounds, a tuple for each round."""
    size = len(trace)
    told = told_histories(trace, scheme, rounds * size)
    return [tuple(told[size * number:size * (number + 1)]) for number in range(rounds)]


def told_steady(trace, scheme):
    """The steady histories of all positions, looking back from position to position, as if there were no beginning."""
    steady = []
    for position, (branch, _) in enumerate(trace):
        newest_first = []
        back = position
        while len(newest_first) < scheme[1]:
            back = back - 1 if back > 0 else len(trace) - 1
            if scheme[0] != "own" or trace[back][0] == branch:
                newest_first.append(str(trace[back][1]))
        steady.append("".join(reversed(newest_first)))
    return tuple(steady)


def told_steady_from(trace, scheme):
    """The least steady round: one after the last round that has another history."""
    steady = told_steady(trace, scheme)
    # Each branch occurs in each round, so behind as many rounds as the history has characters all rounds are alike.
    rounds = told_rounds(trace, scheme, scheme[1] + 2)
    unlike = [number for number, row in enumerate(rounds) if row != steady]
    return max(unlike) + 1 if unlike else 0


def told_fold(history, bits, branch):
    """The cell of a folded scheme, digit by digit, the lowest one first."""
    digits = [branch // 2 ** place % 2 for place in range(bits)]
    for place, digit in enumerate(reversed(history)):
        if bits > 0 and digit == "1":
            digits[place % bits] = 1 - digits[place % bits]
    return sum(digit * 2 ** place for place, digit in enumerate(digits))


def told_cell(scheme, branch, history):
    """The cell of a branch and a history."""
    if scheme[0] == "folded":
        return told_fold(history, scheme[2], branch)
    return history if scheme[0] == "shared" else (branch, history)
