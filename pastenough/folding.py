"""Folded tables: which positions disturb each other, and how many bits are enough."""

from pastenough.clashes import is_sure
from pastenough.histories import steady_cells
from pastenough.traces import MOST_FOLD_BITS


def meetings(trace, length, bits):
    """The ascending tuple of all pairs of positions that share a cell only because the table is folded."""
    folded = steady_cells(trace, ("folded", length, bits))
    split = steady_cells(trace, ("split", length))
    pairs = []
    for one in range(len(trace)):
        for other in range(one + 1, len(trace)):
            if folded[one] == folded[other] and split[one] != split[other]:
                pairs.append((one, other))
    return tuple(pairs)


def harmful(trace, length, bits):
    """Those pairs of positions that meet and have unlike outcomes."""
    pairs = meetings(trace, length, bits)
    return tuple([(one, other) for one, other in pairs if trace[one][1] != trace[other][1]])


def least_bits(trace, length):
    """The least bits from 0 to 16 with which the folded scheme is sure, None if there are none."""
    for bits in range(MOST_FOLD_BITS + 1):
        if is_sure(trace, ("folded", length, bits)):
            return bits
    return None
