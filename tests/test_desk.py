"""Desk: the lines that it answers, those that it refuses, and what a refused line leaves as it was."""

import itertools
import random
import unittest

from pastenough.budgets import cells_used, leanest
from pastenough.clashes import first_clash
from pastenough.desk import Desk
from pastenough.errors import BadLine, NoTrace, PastError
from pastenough.far import last_error, steady_errors, total_errors
from pastenough.fixed import fewest_errors
from pastenough.folding import least_bits
from pastenough.lengths import least_length
from pastenough.texts import show_counter, show_pattern, show_scheme, show_trace
from pastenough.traces import trace_of
from tests.samples import ANY_VALUES, LOOP, PAIR, TRACES, ExactTest, Unchanged, random_traces, schemes_of

QUESTIONS = (
    "sure", "least own", "least split", "least shared", "errors 0", "errors 1", "errors 300", "errors " + str(10 ** 18),
    "steady", "fewest", "cells", "last", "bits", "leanest 0", "leanest 1", "leanest 64", "leanest " + str(10 ** 18),
)
COUNTERS = tuple((bits, first) for bits in (1, 2, 3, 4) for first in range(2 ** bits))
THOUSANDS = ("1" * 5000, "0" * 5000, "0" * 4999 + "1", "1" + "0" * 4400)


def told_answer(question, trace, scheme, counter):
    """The answer that the functions give."""
    word, _, more = question.partition(" ")
    if word == "least":
        return str(least_length(trace, more))
    if word == "errors":
        return str(total_errors(trace, scheme, counter, int(more)))
    if word == "leanest":
        return " ".join(str(entry) for entry in leanest(trace, int(more)))
    if word == "sure":
        clash = first_clash(trace, scheme)
        return "yes" if clash is None else "no " + str(clash[0]) + " " + str(clash[1])
    if word == "last":
        last = last_error(trace, scheme, counter)
        return "never ends" if last is None else "none" if last < 0 else str(last)
    if word == "bits":
        bits = least_bits(trace, scheme[1])
        return "none" if bits is None else str(bits)
    if word == "steady":
        return str(steady_errors(trace, scheme, counter))
    return str({"fewest": fewest_errors, "cells": cells_used}[word](trace, scheme))


class DeskTest(ExactTest):
    def same_answers(self, desk, trace, scheme, counter):
        for question in QUESTIONS:
            with self.subTest(question=question, trace=trace, scheme=scheme, counter=counter):
                self.same(desk.say(question), told_answer(question, trace, scheme, counter))

    def refused(self, desk, lines):
        for line in lines:
            with self.subTest(line=line), Unchanged(self, line):
                with self.assertRaises(PastError) as caught:
                    desk.say(line)
                self.assertIs(type(caught.exception), BadLine)
                self.assertIs(caught.exception.line, line)

    def desk_of(self, trace, scheme, counter):
        desk = Desk()
        lines = ["trace " + show_trace(trace), "scheme " + show_scheme(scheme), "counter " + show_counter(counter)]
        self.same([desk.say(line) for line in lines], ["done"] * 3)
        return desk


class AnswersTest(DeskTest):
    def test_plain_lines(self):
        desk = Desk()
        lines = ("pattern 1110", "scheme shared 2", "sure", "least shared", "steady", "fewest", "leanest 0")
        self.same([desk.say(line) for line in lines], ["done", "done", "no 2 3", "3", "2", "1", "own 3"])

    def test_each_answer(self):
        desk = self.desk_of(PAIR, ("split", 1), (1, 0))
        for line, answer in (
            ("sure", "yes"), ("least own", "1"), ("least split", "1"), ("least shared", "2"), ("errors 0", "0"),
            ("errors 1", "2"), ("errors 2", "2"), ("errors 1000000000000000000", "2"), ("steady", "0"), ("fewest", "0"),
            ("cells", "4"), ("last", "1"), ("bits", "1"), ("leanest 0", "own 1"), ("leanest 2", "shared 0"),
        ):
            self.same(desk.say(line), answer)
            self.same(desk.say(line=line), answer)

    def test_errors_that_never_begin_and_never_end(self):
        self.same(self.desk_of(((7, 1),), ("own", 0), (1, 1)).say("last"), "none")
        self.same(self.desk_of(((7, 1),), ("own", 0), (1, 0)).say("last"), "0")
        self.same(self.desk_of(LOOP, ("shared", 0), (2, 1)).say("last"), "never ends")

    def test_bits_that_are_not_enough(self):
        self.same(self.desk_of(LOOP, ("own", 2), (2, 1)).say("bits"), "none")
        self.same(self.desk_of(((7, 1),), ("own", 2), (2, 1)).say("bits"), "0")
        self.same(self.desk_of(PAIR, ("folded", 2, 0), (2, 1)).say("bits"), "2")

    def test_what_it_begins_with(self):
        desk = Desk()
        desk.say("pattern 1110")
        self.same_answers(desk, LOOP, ("shared", 0), (2, 1))
        # Two branches, which the shared scheme does not tell apart.
        desk = Desk()
        self.same([desk.say("trace 0:1 1:0"), desk.say("cells"), desk.say("sure")], ["done", "1", "no 0 1"])

    def test_all_answers_are_those_of_the_functions(self):
        for trace in TRACES[:9] + tuple(random_traces(39, 5)):
            for scheme in schemes_of(0) + schemes_of(2) + (("own", 64), ("folded", 64, 16)):
                self.same_answers(self.desk_of(trace, scheme, (2, 2)), trace, scheme, (2, 2))

    def test_all_counters(self):
        for counter in COUNTERS:
            self.same_answers(self.desk_of(PAIR, ("shared", 1), counter), PAIR, ("shared", 1), counter)

    def test_patterns(self):
        for pattern in ((0,), (1,), (1, 1, 1, 0), (0, 1) * 32, (0,) * 63 + (1,)):
            desk = Desk()
            self.same(desk.say("pattern " + show_pattern(pattern)), "done")
            self.same_answers(desk, trace_of(pattern), ("shared", 0), (2, 1))

    def test_each_setting_stays_until_it_is_set_again(self):
        desk = Desk()
        state = [None, ("shared", 0), (2, 1)]
        source = random.Random(40)
        for _ in range(60):
            at = source.randrange(3)
            some = (TRACES[:9], schemes_of(0) + schemes_of(3), COUNTERS)[at]
            state[at] = source.choice(some)
            word, show = (("trace", show_trace), ("scheme", show_scheme), ("counter", show_counter))[at]
            self.same(desk.say(word + " " + show(state[at])), "done")
            if state[0] is not None:
                self.same_answers(desk, *state)

    def test_two_desks(self):
        one, other = self.desk_of(LOOP, ("shared", 3), (2, 1)), self.desk_of(PAIR, ("own", 0), (1, 0))
        self.same_answers(one, LOOP, ("shared", 3), (2, 1))
        self.same_answers(other, PAIR, ("own", 0), (1, 0))
        with self.assertRaises(NoTrace):
            Desk().say("sure")


class NoTraceTest(DeskTest):
    def test_each_question(self):
        desk = Desk()
        for _ in range(2):
            for question in QUESTIONS:
                with self.subTest(question=question):
                    with self.assertRaises(PastError) as caught:
                        desk.say(question)
                    self.assertIs(type(caught.exception), NoTrace)
            self.same([desk.say("scheme own 1"), desk.say("counter 1 0")], ["done", "done"])
        desk.say("pattern 10")
        self.same_answers(desk, ((0, 1), (0, 0)), ("own", 1), (1, 0))

    def test_a_bad_line_comes_first(self):
        desk = Desk()
        self.refused(desk, ["sure ", "least", "least folded", "errors", "errors -1", "leanest 01", "cell", "", "bits 1"])
        self.refused(desk, ["errors " + str(10 ** 18 + 1), "leanest " + str(10 ** 18 + 1), None, 0, ["sure"]])

    def test_the_texts_that_show_nothing(self):
        desk = Desk()
        self.refused(desk, ["trace", "trace ", "trace 0:2", "pattern", "pattern 2", "scheme own", "counter 2"])
        with self.assertRaises(NoTrace):
            desk.say("steady")


class RefusedTest(DeskTest):
    def setUp(self):
        self.desk = self.desk_of(PAIR, ("folded", 2, 1), (3, 2))

    def tearDown(self):
        # A refused line changes nothing.
        self.same_answers(self.desk, PAIR, ("folded", 2, 1), (3, 2))

    def test_any_value(self):
        self.refused(self.desk, ANY_VALUES)
        self.refused(self.desk, [["sure"], ("sure",), {"sure": 1}, ("errors", 1), ["least", "own"], b"sure", ("trace",)])

    def test_blanks(self):
        for line in QUESTIONS + ("trace 0:1 0:0", "pattern 10", "scheme own 3", "counter 2 1"):
            self.refused(self.desk, [" " + line, line + " ", line + "\n", "\n" + line, line + "x", "  " + line, line + "\t"])
            self.refused(self.desk, [line.replace(" ", "  "), line.replace(" ", "\n")] if " " in line else [])
            self.refused(self.desk, [line.upper(), line.capitalize(), line + " " + line, line + "\n" + line])

    def test_words_too_many_and_too_few(self):
        self.refused(self.desk, [line + " 1" for line in QUESTIONS])
        self.refused(self.desk, [line + " own" for line in QUESTIONS])
        self.refused(self.desk, ["least", "errors", "leanest", "trace", "pattern", "scheme", "counter", "", " ", "  "])
        self.refused(self.desk, ["sur", "suree", "done", "own", "0", "1", "PAIR", "trace0:1", "errors1", "leastown", "bits0"])

    def test_words_of_schemes(self):
        self.refused(self.desk, ["least " + word for word in (
            "folded", "folded 2", "owns", "Own", "", "3", "own 3", "shared own", "none", "o",
        )])

    def test_numbers(self):
        for word in ("errors", "leanest"):
            self.refused(self.desk, [word + " " + number for number in (
                "", "-1", "-0", "+1", "00", "01", "1.0", "1e3", "0x1", "1_0", "a", "1 2", "one", "1,000", "(1)", "1-",
                "1000000000000000001", "1000000000000000000000", "9999999999999999999", "0" * 19, "\u0661", "\u00b2",
            ) + THOUSANDS])

    def test_texts(self):
        self.refused(self.desk, ["trace " + text for text in (
            "", " ", "0", "0:2", "8:0", "0:1  0:0", "0:1 ", "00:1", "0:1 0", "1110", " ".join(["0:1"] * 65),
        ) + THOUSANDS])
        self.refused(self.desk, ["pattern " + text for text in (
            "", " ", "2", "1 0", "0:1", "10 ", "0" * 65, "1110\n", "-1",
        ) + THOUSANDS])
        self.refused(self.desk, ["scheme " + text for text in (
            "", "own", "own 65", "own 03", "folded 3", "folded 3 17", "own 3 2", "3", "own  3", "folded 3 02", "Own 3",
        ) + tuple("own " + number for number in THOUSANDS)])
        self.refused(self.desk, ["counter " + text for text in (
            "", "2", "2 4", "0 0", "5 0", "02 1", "2 01", "2  1", "2 1 0", "2 -1", "21",
        ) + tuple("2 " + number for number in THOUSANDS)])

    def test_long_lines(self):
        self.refused(self.desk, ["sure" * 5000, "sure " * 4000, " " * 20000, "trace " + "0:1 " * 4000, "\n" * 20000])

    def test_each_sign(self):
        """A line with one sign missing, or with one sign more, is refused if it is not another line."""
        for line in ("sure", "least own", "errors 10", "leanest 0", "fewest", "last"):
            made = [line[:at] + line[at + 1:] for at in range(len(line))]
            signs = itertools.product(range(len(line) + 1), "x -\n")
            made += [line[:at] + sign + line[at:] for at, sign in signs]
            self.refused(self.desk, [other for other in made if other not in ("errors 1", "errors 0", line)])


class LinesTest(DeskTest):
    def test_a_word_that_is_longer_than_its_line(self):
        desk = self.desk_of(((0, 1),), ("own", 0), (2, 1))
        self.same([desk.say("leanest 0"), desk.say("least own")], ["own 0", "0"])
        self.refused(desk, ["least 0", "leanest own", "leanest", "least"])

    def test_numbers_at_their_bounds(self):
        desk = self.desk_of(LOOP, ("shared", 0), (2, 1))
        self.same(desk.say("errors 0"), "0")
        self.same(desk.say("errors 10"), "11")
        self.same(desk.say("errors 999999999999999999"), "1000000000000000000")
        self.same(desk.say("errors 1000000000000000000"), "1000000000000000001")
        self.same(desk.say("leanest 1000000000000000000"), "own 0")


if __name__ == "__main__":
    unittest.main()
