"""A desk, which answers lines of words."""

from pastenough.budgets import cells_used, leanest
from pastenough.clashes import first_clash
from pastenough.errors import BadLine, BadText, NoTrace
from pastenough.far import last_error, steady_errors, total_errors
from pastenough.fixed import fewest_errors
from pastenough.folding import least_bits
from pastenough.lengths import least_length
from pastenough.texts import number_in, read_counter, read_pattern, read_scheme, read_trace, show_scheme
from pastenough.traces import PLAIN_WORDS, trace_of

MOST_NUMBER = 10 ** 18
SETTINGS = ("trace", "pattern", "scheme", "counter")
COUNTED = ("errors", "leanest")


class Desk:
    """A desk without a trace, with the scheme ("shared", 0) and the counter (2, 1), until it is told others."""

    def __init__(self):
        self._trace = None
        self._scheme = ("shared", 0)
        self._counter = (2, 1)

    def say(self, line):
        """The answer to a line, any value. Raises BadLine, then NoTrace."""
        if not isinstance(line, str):
            raise BadLine(line)
        word, _, text = line.partition(" ")
        if word in SETTINGS:
            self._set(word, text, line)
            return "done"
        words = line.split(" ")
        if not _is_question(words):
            raise BadLine(line)
        if self._trace is None:
            raise NoTrace()
        return self._answer(words)

    def _set(self, word, text, line):
        """Sets what the word names to what the text shows. Raises BadLine with the line."""
        try:
            if word == "trace":
                self._trace = read_trace(text)
            elif word == "pattern":
                self._trace = trace_of(read_pattern(text))
            elif word == "scheme":
                self._scheme = read_scheme(text)
            else:
                self._counter = read_counter(text)
        except BadText:
            raise BadLine(line) from None

    def _answer(self, words):
        """The answer to the words of a question."""
        if len(words) == 1:
            answer = ANSWERS[words[0]]
            return answer(self._trace, self._scheme, self._counter)
        if words[0] == "least":
            return str(least_length(self._trace, words[1]))
        number = number_in(words[1], MOST_NUMBER)
        if words[0] == "errors":
            return str(total_errors(self._trace, self._scheme, self._counter, number))
        return show_scheme(leanest(self._trace, number))


def _sure(trace, scheme, counter):
    clash = first_clash(trace, scheme)
    return "yes" if clash is None else f"no {clash[0]} {clash[1]}"


def _steady(trace, scheme, counter):
    return str(steady_errors(trace, scheme, counter))


def _fewest(trace, scheme, counter):
    return str(fewest_errors(trace, scheme))


def _cells(trace, scheme, counter):
    return str(cells_used(trace, scheme))


def _last(trace, scheme, counter):
    moment = last_error(trace, scheme, counter)
    if moment is None:
        return "never ends"
    return "none" if moment == -1 else str(moment)


def _bits(trace, scheme, counter):
    bits = least_bits(trace, scheme[1])
    return "none" if bits is None else str(bits)


ANSWERS = {"sure": _sure, "steady": _steady, "fewest": _fewest, "cells": _cells, "last": _last, "bits": _bits}


def _is_question(words):
    """Whether the words have the form of a line that asks for something."""
    if len(words) == 1:
        return words[0] in ANSWERS
    if len(words) != 2:
        return False
    if words[0] == "least":
        return words[1] in PLAIN_WORDS
    return words[0] in COUNTED and number_in(words[1], MOST_NUMBER) is not None
