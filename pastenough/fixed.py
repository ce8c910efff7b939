"""Fixed tables: what the best one reaches, and pairs of positions that show that none is better."""

from pastenough.clashes import groups, shows_clash
from pastenough.histories import steady_cells
from pastenough.traces import is_tuple_sized


def table_errors(trace, scheme, table):
    """The number of positions of a round that a fixed table predicts wrongly."""
    known = {cell: outcome for cell, outcome in table}
    cells = steady_cells(trace, scheme)
    return len([cell for cell, pair in zip(cells, trace) if known.get(cell, 0) != pair[1]])


def fewest_errors(trace, scheme):
    """The least number of positions of a round that a fixed table predicts wrongly."""
    return len(forced(trace, scheme))


def best_table(trace, scheme):
    """An ascending fixed table with the fewest errors that has just the steady cells."""
    return tuple([(cell, _best_outcome(trace, positions)) for cell, positions in groups(trace, scheme)])


def forced(trace, scheme):
    """An ascending tuple of as many pairs of positions that clash as the fewest errors, no position in two of them."""
    pairs = []
    for cell, positions in groups(trace, scheme):
        zeros, ones = _parted(trace, positions)
        for zero, one in zip(zeros, ones):
            pairs.append((min(zero, one), max(zero, one)))
    return tuple(sorted(pairs))


def shows_forced(trace, scheme, value):
    """Whether any value is an ascending tuple of pairs of positions that clash, no position in two of them."""
    # More pairs than that would have some position twice.
    if not is_tuple_sized(value, 0, len(trace) // 2):
        return False
    if not all([shows_clash(trace, scheme, pair) for pair in value]):
        return False
    positions = [position for pair in value for position in pair]
    return len(set(positions)) == len(positions) and list(value) == sorted(value)


def _parted(trace, positions):
    """(zeros, ones): the positions with the outcome 0, and those with the outcome 1."""
    zeros = [position for position in positions if trace[position][1] == 0]
    ones = [position for position in positions if trace[position][1] == 1]
    return (zeros, ones)


def _best_outcome(trace, positions):
    zeros, ones = _parted(trace, positions)
    return 1 if len(ones) > len(zeros) else 0
