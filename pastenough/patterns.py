"""How many patterns need a given history, and patterns that need it."""

from pastenough.histories import pushed
from pastenough.traces import root_of


def count_patterns(outcomes, length):
    """The number of patterns of so many outcomes with a reach of at most length."""
    # A pattern has the reach of its root, and each root gives one pattern of each multiple of its own size.
    sizes = [size for size in range(1, outcomes + 1) if outcomes % size == 0]
    return sum([size * turns_count(size, length) for size in sizes])


def patterns(outcomes, length):
    """The patterns of so many outcomes with just this reach, in ascending order."""
    if outcomes < 1:
        return
    for number in range(1 << outcomes):
        pattern = _digits(number, outcomes)
        root = root_of(pattern)
        if _is_reach_within(root, length) and not _is_reach_within(root, length - 1):
            yield pattern


def primitive_count(number):
    """The number of primitive patterns of so many outcomes."""
    # All other patterns repeat a primitive one whose number of outcomes divides theirs.
    others = [primitive_count(size) for size in range(1, number) if number % size == 0]
    return (1 << max(0, number)) - sum(others)


def full_pattern(length):
    """A primitive pattern in which each history of this length stands once."""
    history = "0" * length
    seen = {history: True}
    outcomes = []
    # Taking 1 wherever this gives a new history is known to come through all histories and back to the first one.
    for _ in range(1 << max(0, length)):
        outcome = 0 if pushed(history, 1) in seen else 1
        history = pushed(history, outcome)
        seen[history] = True
        outcomes.append(outcome)
    return tuple(outcomes)


def full_count(length):
    """The number of patterns that full_pattern may return, turned ones counted as one."""
    if length < 1:
        # Without a history there are (0,) and (1,).
        return 2
    # De Bruijn's formula.
    return 1 << ((1 << (length - 1)) - length)


def turns_count(size, length):
    """The number of primitive patterns of a size with a reach of at most length, turned ones counted as one."""
    if size < 1:
        return 0
    first_turns = [number for number in range(1 << size) if _is_first_turn(number, size)]
    return len([number for number in first_turns if _is_reach_within(_digits(number, size), length)])


def _digits(number, size):
    """The tuple of so many binary digits of a number, the highest one first."""
    return tuple([(number >> place) & 1 for place in reversed(range(size))])


def _is_first_turn(number, size):
    """Whether so many binary digits are a lesser number than they are turned round, by whatever steps."""
    # If they are not primitive, some turning gives the same number: so only primitive ones are counted.
    greatest = (1 << size) - 1
    turned = number
    for _ in range(size - 1):
        turned = ((turned << 1) & greatest) | (turned >> (size - 1))
        if turned <= number:
            return False
    return True


def _is_reach_within(root, length):
    """Whether a primitive pattern has a reach of at most length: all its histories of this length differ."""
    if length < 0:
        return False
    # Histories as long as a primitive pattern always differ, so longer ones need not be looked at.
    enough = min(length, len(root))
    twice = root + root
    return len({twice[at:at + enough] for at in range(len(root))}) == len(root)
