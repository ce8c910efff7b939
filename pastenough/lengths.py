"""The least history that is enough, and why less is not."""

from pastenough.clashes import first_clash, is_sure, table
from pastenough.traces import MOST_LENGTH, root_of, scheme_of, trace_of


def least_length(trace, word, *, bits=0):
    """The least length from 0 to 64 for which the scheme is sure, None if there is none."""
    for length in range(MOST_LENGTH + 1):
        if is_sure(trace, scheme_of(word, length, bits)):
            return length
    return None


def reason(trace, word, *, bits=0):
    """(least length, its table, a clash with a length that is 1 less), None if there is no such length."""
    length = least_length(trace, word, bits=bits)
    if length is None:
        return None
    clash = None
    if length > 0:
        clash = first_clash(trace, scheme_of(word, length - 1, bits))
    return (length, table(trace, scheme_of(word, length, bits)), clash)


def reach(pattern):
    """The least length with which ("shared", length) is sure for the trace of a pattern."""
    trace = trace_of(pattern)
    length = 0
    # It ends, with no limit: histories as long as the pattern are alike only where the outcomes are alike, too.
    while not is_sure(trace, ("shared", length)):
        length += 1
    return length


def longest_factor(pattern):
    """(length, one, other) of a longest factor that begins at two positions of the root, None for one outcome."""
    root = root_of(pattern)
    if len(root) < 2:
        return None
    longest = (_common(root, 0, 1), 0, 1)
    for one in range(len(root)):
        for other in range(one + 1, len(root)):
            length = _common(root, one, other)
            if length > longest[0]:
                longest = (length, one, other)
    return longest


def _common(root, one, other):
    """The number of outcomes that are the same from both positions on, round and round."""
    size = len(root)
    length = 0
    # It ends, as a root turned by less than its size is never the root again.
    while root[(one + length) % size] == root[(other + length) % size]:
        length += 1
    return length
