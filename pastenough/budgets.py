"""Schemes compared: by the errors of their best fixed tables, by their cells, and by their errors for ever."""

from pastenough.far import steady_errors
from pastenough.fixed import fewest_errors
from pastenough.histories import steady_cells
from pastenough.traces import MOST_LENGTH, PLAIN_WORDS, scheme_of


def profile(trace, word, longest, *, bits=0):
    """The tuple of the fewest errors for the lengths 0 to longest."""
    return tuple([fewest_errors(trace, scheme_of(word, length, bits)) for length in range(longest + 1)])


def shortest_within(trace, word, errors, *, bits=0):
    """The least length from 0 to 64 with at most so many fewest errors, None if there is none."""
    for length in range(MOST_LENGTH + 1):
        if fewest_errors(trace, scheme_of(word, length, bits)) <= errors:
            return length
    return None


def cells_used(trace, scheme):
    """The number of different steady cells."""
    return len(set(steady_cells(trace, scheme)))


def leanest(trace, errors):
    """The plain scheme with the fewest cells of those with at most so many fewest errors."""
    found = []
    for place, word in enumerate(PLAIN_WORDS):
        # More history only parts cells: the shortest one that is enough has the fewest cells of its word.
        length = shortest_within(trace, word, errors)
        if length is not None:
            found.append((cells_used(trace, (word, length)), length, place))
    if not found:
        return None
    cells, length, place = min(found)
    return (PLAIN_WORDS[place], length)


def compared(trace, counter, one, other):
    """The errors of one scheme in each late round, less those of the other one."""
    return steady_errors(trace, one, counter) - steady_errors(trace, other, counter)
