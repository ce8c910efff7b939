"""One counter: its predictions, and where a sequence of outcomes brings it."""


def most_value(bits):
    """The greatest value of a counter of so many bits."""
    return (1 << max(0, bits)) - 1


def predicted(bits, value):
    """The prediction of a counter: 1 from the upper half of its values, otherwise 0."""
    return 1 if 2 * value > most_value(bits) else 0


def value_after(bits, value, outcome):
    """The value behind an outcome."""
    if outcome == 1:
        return min(value + 1, most_value(bits))
    return max(value - 1, 0)


def counted(counter, outcomes):
    """(errors, value): the errors of one cell that has these outcomes, and its value behind them."""
    bits, value = counter
    errors = 0
    for outcome in outcomes:
        if predicted(bits, value) != outcome:
            errors += 1
        value = value_after(bits, value, outcome)
    return (errors, value)


def value_map(bits, outcomes):
    """The tuple of the values behind these outcomes for all first values, in their order."""
    return tuple([counted((bits, first), outcomes)[1] for first in range(most_value(bits) + 1)])


def fixed_values(bits, outcomes):
    """The ascending tuple of all first values that are the value behind the outcomes, too."""
    return tuple([first for first, value in enumerate(value_map(bits, outcomes)) if first == value])


def settled_value(counter, outcomes):
    """The value behind each repetition of the outcomes, from some repetition on."""
    bits, value = counter
    behind = counted((bits, value), outcomes)[1]
    # It ends: a greater value never comes to a lesser one, so from repetition to repetition it moves one way only.
    while behind != value:
        value = behind
        behind = counted((bits, value), outcomes)[1]
    return value


def settled_errors(counter, outcomes):
    """The errors in each repetition of the outcomes, from some repetition on."""
    bits, _ = counter
    return counted((bits, settled_value(counter, outcomes)), outcomes)[0]


def changes(outcomes):
    """How many of the outcomes are followed by another outcome, the last one by the first one."""
    followers = outcomes[1:] + outcomes[:1]
    return len([outcome for outcome, follower in zip(outcomes, followers) if outcome != follower])
