"""Ways: closed walks through different histories of one length, and the patterns that make them."""

from pastenough.errors import TooShort
from pastenough.histories import pushed, steady_history
from pastenough.lengths import reach
from pastenough.patterns import turns_count
from pastenough.traces import root_of, trace_of


def leads_to(node):
    """The ascending tuple of the two nodes to which a node leads."""
    return (pushed(node, 0), pushed(node, 1))


def is_way(length, value):
    """Whether any value is a way of a length."""
    if not isinstance(value, tuple) or len(value) == 0:
        return False
    if not all([_is_node(length, item) for item in value]):
        return False
    if not all([other in leads_to(node) for node, other in zip(value, _followers(value))]):
        return False
    return len(set(value)) == len(value)


def way_of(pattern, length):
    """The way of a length that a pattern makes. Raises TooShort."""
    least = reach(pattern)
    if least > length:
        raise TooShort(least)
    trace = trace_of(root_of(pattern))
    return tuple([steady_history(trace, ("shared", length), position) for position in range(len(trace))])


def pattern_of(way):
    """The pattern that makes a way."""
    return tuple([1 if node.endswith("1") else 0 for node in _followers(way)])


def ways_count(length, nodes):
    """The number of ways of a length with so many nodes, two that differ by turning them round counted as one."""
    # Each way is made by one primitive pattern of as many outcomes, whose reach is at most the length.
    return turns_count(nodes, length)


def _is_node(length, value):
    """Whether any value is a node of a length."""
    return isinstance(value, str) and len(value) == length and all([sign in ("0", "1") for sign in value])


def _followers(way):
    """For each node the next one, for the last node the first one."""
    return way[1:] + way[:1]
