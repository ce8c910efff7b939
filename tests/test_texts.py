"""The texts of traces, patterns, schemes and counters, and report."""

import itertools
import random
import unittest

from pastenough.errors import BadText
from pastenough.texts import (
    read_counter, read_pattern, read_scheme, read_trace, report, show_counter, show_pattern, show_scheme, show_trace,
)
from tests.model import told_run, told_wrong
from tests.samples import ANY_VALUES, LOOP, PAIR, TRACES, ExactTest, Unchanged, cases, random_traces

READERS = (read_trace, read_pattern, read_scheme, read_counter)
SOME_TRACES = TRACES + tuple(random_traces(24, 12))
COUNTERS = tuple((bits, first) for bits in (1, 2, 3, 4) for first in range(2 ** bits))
SCHEMES = tuple((word, length) for word in ("own", "split", "shared") for length in range(65))
FOLDED = tuple(("folded", length, bits) for length in range(65) for bits in range(17))
THOUSANDS = ("1" * 5000, "0" * 5000, "0" * 4999 + "1", "9" * 19000, "1" + "0" * 4400)


def some_patterns():
    source = random.Random(25)
    short = [pattern for size in (1, 2, 3, 4) for pattern in itertools.product((0, 1), repeat=size)]
    return short + [tuple(source.randint(0, 1) for _ in range(size)) for size in (5, 31, 63, 64)] + [(0,) * 64]


class TextsTest(ExactTest):
    def refused(self, read, values):
        for value in values:
            with self.subTest(read=read.__name__, value=value), Unchanged(self, value):
                with self.assertRaises(BadText) as caught:
                    read(value)
                self.assertIs(caught.exception.text, value)
                with self.assertRaises(BadText) as caught:
                    read(text=value)
                self.assertIs(caught.exception.text, value)

    def both_ways(self, show, read, value, text):
        with self.subTest(value=value, text=text):
            self.same(show(value), text)
            self.same(read(text), value)
            self.same(read(text=text), value)

    def refused_beside(self, read, text):
        """Refused: a good text with a sign more, a sign less that no other good text lacks, or another sign."""
        self.refused(read, [" " + text, text + " ", text + "\n", "\n" + text, text + "x", "-" + text, "+" + text])
        self.refused(read, [text + "\t", text + " \n", text + ".0", text + "_0", "0x" + text, "(" + text + ")"])


class ShowAndReadTest(TextsTest):
    def test_traces(self):
        self.both_ways(show_trace, read_trace, PAIR, "0:1 1:1 0:0 1:0")
        self.both_ways(show_trace, read_trace, ((0, 0),), "0:0")
        self.both_ways(show_trace, read_trace, ((7, 1),), "7:1")
        self.both_ways(show_trace, read_trace, ((7, 1),) * 64, " ".join(["7:1"] * 64))
        for trace in SOME_TRACES:
            self.both_ways(show_trace, read_trace, trace, " ".join(str(one) + ":" + str(two) for one, two in trace))
        self.same(show_trace(trace=PAIR), "0:1 1:1 0:0 1:0")

    def test_patterns(self):
        self.both_ways(show_pattern, read_pattern, (1, 1, 1, 0), "1110")
        self.both_ways(show_pattern, read_pattern, (0,), "0")
        for pattern in some_patterns():
            self.both_ways(show_pattern, read_pattern, pattern, "".join(str(outcome) for outcome in pattern))
        self.same(show_pattern(pattern=(0, 1)), "01")

    def test_schemes(self):
        self.both_ways(show_scheme, read_scheme, ("own", 0), "own 0")
        self.both_ways(show_scheme, read_scheme, ("split", 64), "split 64")
        self.both_ways(show_scheme, read_scheme, ("folded", 5, 3), "folded 5 3")
        self.both_ways(show_scheme, read_scheme, ("folded", 0, 0), "folded 0 0")
        self.both_ways(show_scheme, read_scheme, ("folded", 64, 16), "folded 64 16")
        for word, length in SCHEMES:
            self.both_ways(show_scheme, read_scheme, (word, length), word + " " + str(length))
        for word, length, bits in FOLDED:
            self.both_ways(show_scheme, read_scheme, (word, length, bits), "folded " + str(length) + " " + str(bits))
        self.same(show_scheme(scheme=("own", 3)), "own 3")

    def test_counters(self):
        self.both_ways(show_counter, read_counter, (2, 1), "2 1")
        for bits, first in COUNTERS:
            self.both_ways(show_counter, read_counter, (bits, first), str(bits) + " " + str(first))
        self.same(show_counter(counter=(4, 15)), "4 15")


class RefusedTest(TextsTest):
    def test_any_value(self):
        right = {read_trace: (), read_pattern: ("0", "1"), read_scheme: ("own 3",), read_counter: ()}
        for read, texts in right.items():
            self.refused(read, [value for value in ANY_VALUES if not (isinstance(value, str) and value in texts)])

    def test_values_that_look_like_texts(self):
        self.refused(read_trace, [["0:1"], ("0:1",), ((0, 1),), {"0:1": 1}, 0, 1, True, None, [["0", "1"]]])
        self.refused(read_pattern, [["1", "0"], ("1", "0"), (1, 0), [1], {"1": "0"}, {0: 1}, 1110, 1, 0, True, False])
        self.refused(read_scheme, [("own", 3), ["own", "3"], ("own", "3"), {"own": 3}, ("folded", 3, 2), 3])
        self.refused(read_counter, [(2, 1), ["2", "1"], ("2", "1"), {2: 1}, {"2": "1"}, 21, 2, 1, True])

    def test_texts_of_traces(self):
        self.refused_beside(read_trace, "0:1")
        self.refused_beside(read_trace, "0:1 1:1 0:0 1:0")
        self.refused(read_trace, [
            "", " ", ":", "0", "0:", ":1", "01", "0 1", "0:1:", "0:1:0", ":0:1", "0::1", "0:2", "8:0", "0:10", "10:0",
            "0:1  0:0", "0:1 0:0 ", " 0:1 0:0", "0:1\n0:0", "0:1,0:0", "0:1 0", "0:1 :", "00:1", "0:01", "0:00",
            "-1:0", "0:-0", "0:-1", "+0:1", "a:1", "0:a", "0: 1", "0 :1", "1110", "0;1", "0.1", "0:True", "0:1 0:2",
        ])
        self.refused(read_trace, [" ".join(["7:1"] * size) for size in (65, 66, 128, 5000)])
        self.refused(read_trace, ["0:1 " * 64, "0:1" * 64])

    def test_texts_of_patterns(self):
        self.refused_beside(read_pattern, "1110")
        self.refused(read_pattern, [
            "", " ", "2", "12", "10 01", "1 1 1 0", "1,0", "-1", "+1", "1.", "0b10", "a", "1110\n", "\n", "0:1", "01x",
        ])
        self.refused(read_pattern, ["0" * 65, "1" * 65, "01" * 64, "0" * 63 + "2", "0" * 64 + " ", "1" * 20000])

    def test_texts_of_schemes(self):
        for text in ("own 3", "split 0", "shared 64", "folded 5 3"):
            self.refused_beside(read_scheme, text)
        for word in ("own", "split", "shared"):
            self.refused(read_scheme, [word + more for more in (
                "", " ", "3", " 03", " 00", " -1", " -0", " +3", " 65", " 100", " 3 2", " 3 ", "  3", " 3  ", " a",
                " 3a", " 3.0", " 0x3", " 1_0", "\n3", " 3\n", " 6 4", ":3", " (3)", " 640", " 064", " True", " None",
            )])
        self.refused(read_scheme, ["folded" + more for more in (
            "", " ", " 3", " 3 ", " 3 17", " 65 3", " 3 02", " 03 2", " 3 -1", " -3 1", " 3  2", "  3 2", " 3 2 ",
            " 3 2 1", " 3 a", " a 3", " 3 2.0", " 3 +2", " 3 100", " 3,2", " 3\n2", " 32", " 3 00", " 00 3",
        )])
        self.refused(read_scheme, [
            "", " ", "3", "3 own", "3 2", "Own 3", "OWN 3", "owns 3", "ow 3", "own own", "fold 3 2", "Folded 3 2",
            " 3", " 3 2", "own split 3", "3 folded 2", "folded own 3", "global 3", "folded 3 own",
        ])

    def test_texts_of_counters(self):
        for bits, first in COUNTERS:
            self.refused_beside(read_counter, str(bits) + " " + str(first))
            self.refused(read_counter, [f"{bits} 0{first}", f"0{bits} {first}", f"{bits}  {first}", f"{bits},{first}"])
        for bits in (1, 2, 3, 4):
            self.refused(read_counter, [f"{bits} {first}" for first in (2 ** bits, 2 ** bits + 1, 100, -1, "-0", "+0")])
        self.refused(read_counter, [
            "", " ", "2", "2 ", " 1", "21", "2 1 0", "0 0", "5 0", "10 0", "2 a", "a 1", "2 1.", "2.0 1", "2:1", "2\n1",
            "-2 1", "2 -1", "16 0", "4 16", "2  1", "2 1  ", "(2, 1)", "two 1",
        ])

    def test_numbers_of_thousands_of_digits(self):
        for number in THOUSANDS:
            self.refused(read_trace, [number + ":1", "0:" + number, "0:1 " + number + ":0", number])
            self.refused(read_pattern, [number + "2", number])
            self.refused(read_scheme, ["own " + number, "folded 3 " + number, "folded " + number + " 3", number + " 3"])
            self.refused(read_counter, [number + " 1", "2 " + number, number])

    def test_other_digits_than_those_from_0_to_9(self):
        for digit in ("\u0661", "\u00b2", "\uff11", "\u2460"):
            self.refused(read_trace, [digit + ":1", "1:" + digit])
            self.refused(read_pattern, [digit])
            self.refused(read_scheme, ["own " + digit, "folded 1 " + digit])
            self.refused(read_counter, ["1 " + digit, digit + " 1"])


class EachSignTest(TextsTest):
    """What is read from a text with one sign more, missing or other shows this very text, or nothing is read."""

    def check(self, read, show, text):
        made = [text[:at] + text[at + 1:] for at in range(len(text))]
        for sign in " 0123456789:x-+\n":
            made += [text[:at] + sign + text[at:] for at in range(len(text) + 1)]
            made += [text[:at] + sign + text[at + 1:] for at in range(len(text))]
        for other in made:
            with self.subTest(read=read.__name__, text=other):
                try:
                    value = read(other)
                except BadText as error:
                    self.assertIs(error.text, other)
                else:
                    self.assertEqual(show(value), other)

    def test_all_texts(self):
        for text in ("0:1", "0:1 7:0 3:1"):
            self.check(read_trace, show_trace, text)
        for text in ("0", "1110", "0" * 64):
            self.check(read_pattern, show_pattern, text)
        for text in ("own 3", "split 64", "shared 0", "folded 5 3", "folded 64 16"):
            self.check(read_scheme, show_scheme, text)
        for text in ("2 1", "4 15", "1 0"):
            self.check(read_counter, show_counter, text)


class ReportTest(ExactTest):
    def check(self, trace, scheme, counter, rounds):
        with self.subTest(trace=trace, scheme=scheme, counter=counter, rounds=rounds):
            lines = []
            for number, row in enumerate(told_run(trace, scheme, counter, rounds)):
                lines.append(str(number).rjust(4) + str(told_wrong(row)).rjust(4))
            self.same(report(trace, scheme, counter, rounds), "\n".join(lines))

    def test_plain_reports(self):
        self.same(report(LOOP, ("shared", 0), (2, 1), 2), "   0   2\n   1   1")
        self.same(report(LOOP, ("shared", 3), (2, 1), 4), "   0   3\n   1   2\n   2   0\n   3   0")
        self.same(report(((0, 1),) * 64, ("shared", 64), (1, 0), 1), "   0  64")

    def test_no_rounds_and_one(self):
        for trace, scheme in cases(SOME_TRACES[:8], (0, 2)):
            self.same(report(trace, scheme, (2, 1), 0), "")
            self.check(trace, scheme, (2, 1), 1)

    def test_a_hundred_rounds(self):
        for trace in (LOOP, PAIR, TRACES[7], ((5, 0),)):
            for scheme in (("shared", 0), ("own", 64), ("split", 1), ("folded", 9, 0), ("folded", 64, 16)):
                self.check(trace, scheme, (3, 0), 100)
                text = report(trace, scheme, (3, 0), 100)
                self.assertEqual({len(line) for line in text.split("\n")}, {8})
                self.assertEqual(len(text), 100 * 8 + 99)

    def test_all_traces_and_counters(self):
        for trace, scheme in cases(SOME_TRACES, (0, 3)):
            self.check(trace, scheme, (2, 2), 3)
        for counter in COUNTERS:
            self.check(PAIR, ("shared", 1), counter, 20)

    def test_arguments_by_name(self):
        self.same(report(rounds=1, counter=(2, 1), scheme=("shared", 0), trace=LOOP), "   0   2")


class SomewhatBeyondTest(ExactTest):
    """The interface: no error for what is somewhat beyond a limit."""

    def test_more_and_less(self):
        self.same(show_trace(((8, 1),) * 65), " ".join(["8:1"] * 65))
        self.same(show_pattern((1,) * 65), "1" * 65)
        self.same(show_scheme(("folded", 65, 17)), "folded 65 17")
        self.same(show_counter((5, 31)), "5 31")
        self.same(report(((0, 1),), ("shared", 0), (1, 0), 101).split("\n")[-1], " 100   0")
        self.same(report(LOOP, ("shared", 0), (2, 1), -1), "")


if __name__ == "__main__":
    unittest.main()
