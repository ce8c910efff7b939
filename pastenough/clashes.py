"""Which positions share a steady cell and clash, and the table of predictions where none do."""

from pastenough.histories import steady_cells


def groups(trace, scheme):
    """The ascending tuple of the pairs (cell, positions) of all steady cells."""
    places = {}
    for position, cell in enumerate(steady_cells(trace, scheme)):
        places.setdefault(cell, []).append(position)
    return tuple([(cell, tuple(places[cell])) for cell in sorted(places)])


def clashes(trace, scheme):
    """All pairs (one, other) of positions that clash, one < other, in ascending order."""
    cells = steady_cells(trace, scheme)
    for one in range(len(trace)):
        for other in range(one + 1, len(trace)):
            if cells[one] == cells[other] and trace[one][1] != trace[other][1]:
                yield (one, other)


def first_clash(trace, scheme):
    """The first pair of positions that clash, None if there is none."""
    for pair in clashes(trace, scheme):
        return pair
    return None


def is_sure(trace, scheme):
    """Whether no two positions clash."""
    return first_clash(trace, scheme) is None


def shows_clash(trace, scheme, value):
    """Whether any value is a pair of positions that clash, one < other."""
    return any([_is_same(value, pair) for pair in clashes(trace, scheme)])


def table(trace, scheme):
    """The ascending tuple of the pairs (cell, outcome) of all steady cells, None if the scheme is not sure."""
    if not is_sure(trace, scheme):
        return None
    return tuple([(cell, trace[positions[0]][1]) for cell, positions in groups(trace, scheme)])


def shows_table(trace, scheme, value):
    """Whether any value is the table of a trace and a scheme."""
    right = table(trace, scheme)
    return right is not None and _is_same(value, right)


def _is_same(value, right):
    """Whether any value is the right one, which consists of integers, strings and tuples."""
    if isinstance(right, tuple):
        return _is_same_tuple(value, right)
    # Python takes True and False for integers, the document does not.
    return not isinstance(value, bool) and value == right


def _is_same_tuple(value, right):
    if not isinstance(value, tuple) or len(value) != len(right):
        return False
    return all([_is_same(item, other) for item, other in zip(value, right)])
