"""Texts of traces, patterns, schemes and counters, and a report of the errors in the first rounds."""

from pastenough.errors import BadText
from pastenough.running import errors_by_round
from pastenough.traces import LAST_BRANCH, MOST_LENGTH, is_counter, is_pattern, is_scheme, is_trace

DIGITS = "0123456789"
LAST_OUTCOME = 1
MOST_ENTRY = 15


def show_trace(trace):
    """The text of a trace."""
    return " ".join([f"{branch}:{outcome}" for branch, outcome in trace])


def show_pattern(pattern):
    """The text of a pattern."""
    return "".join([str(outcome) for outcome in pattern])


def show_scheme(scheme):
    """The text of a scheme."""
    return " ".join([str(entry) for entry in scheme])


def show_counter(counter):
    """The text of a counter."""
    return " ".join([str(entry) for entry in counter])


def read_trace(text):
    """The trace that any value shows as its text. Raises BadText."""
    trace = tuple([_pair_in(word) for word in _words_in(text)])
    if not is_trace(trace):
        raise BadText(text)
    return trace


def read_pattern(text):
    """The pattern that any value shows as its text. Raises BadText."""
    signs = text if isinstance(text, str) else ""
    pattern = tuple([number_in(sign, LAST_OUTCOME) for sign in signs])
    if not is_pattern(pattern):
        raise BadText(text)
    return pattern


def read_scheme(text):
    """The scheme that any value shows as its text. Raises BadText."""
    words = _words_in(text)
    scheme = tuple(words[:1] + [number_in(word, MOST_LENGTH) for word in words[1:]])
    if not is_scheme(scheme):
        raise BadText(text)
    return scheme


def read_counter(text):
    """The counter that any value shows as its text. Raises BadText."""
    counter = tuple([number_in(word, MOST_ENTRY) for word in _words_in(text)])
    if not is_counter(counter):
        raise BadText(text)
    return counter


def report(trace, scheme, counter, rounds):
    """A text with a line for each of the first rounds: its number and its errors."""
    errors = errors_by_round(trace, scheme, counter, rounds)
    return "\n".join([f"{number:>4}{many:>4}" for number, many in enumerate(errors)])


def number_in(word, most):
    """The number from 0 to most that a word shows in decimal without leading zeros, None if it shows none."""
    # A longer word shows a greater number. It is not made one: Python refuses to, for thousands of digits.
    if not 1 <= len(word) <= len(str(most)):
        return None
    if not all([sign in DIGITS for sign in word]) or (word[0] == "0" and word != "0"):
        return None
    number = int(word)
    return number if number <= most else None


def _words_in(text):
    """The list of the words of a text, none for any value that is not a string."""
    return text.split(" ") if isinstance(text, str) else []


def _pair_in(word):
    """The pair that a word shows, with None in the place of a number that it does not show."""
    branch, _, outcome = word.partition(":")
    return (number_in(branch, LAST_BRANCH), number_in(outcome, LAST_OUTCOME))
