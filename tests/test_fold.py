"""fold: histories as numbers, cut into pieces and XORed with the branch."""

import itertools
import random
import unittest

from pastenough.histories import fold
from tests.model import told_fold


class FoldTest(unittest.TestCase):
    def check(self, history, bits, branch, expected):
        with self.subTest(history=history, bits=bits, branch=branch):
            cell = fold(history, bits, branch)
            self.assertIs(cell.__class__, int)
            self.assertEqual(cell, expected)
            self.assertEqual(fold(branch=branch, bits=bits, history=history), expected)

    def test_the_example_of_the_document(self):
        self.check("10110", 3, 1, 6 ^ 2 ^ 1)

    def test_plain_histories(self):
        self.check("10110", 5, 0, 22)
        self.check("10110", 4, 0, 6 ^ 1)
        self.check("10110", 2, 0, 2 ^ 1 ^ 1)
        self.check("10110", 1, 0, 1)
        self.check("011", 2, 0, 3)
        self.check("110", 2, 0, 2 ^ 1)
        self.check("1000", 3, 0, 1)

    def test_the_newest_outcome_is_the_lowest_digit(self):
        self.check("0001", 4, 0, 1)
        self.check("1000", 4, 0, 8)
        self.check("0001", 3, 0, 1)
        self.check("0100", 3, 0, 4)
        self.check("001000", 4, 0, 8)
        self.check("010000", 4, 0, 1)

    def test_bits_0(self):
        for branch in range(8):
            for history in ("", "0", "1", "10110", "1" * 64):
                self.check(history, 0, branch, 0)

    def test_bits_1(self):
        for branch in range(8):
            for history in ("", "0", "1", "11", "10110", "1" * 64, "1" * 63):
                self.check(history, 1, branch, (history.count("1") + branch) % 2)

    def test_bits_16(self):
        pieces = (0b1010101010101010, 0b1100110011001100, 0b1111000011110000, 0b1000000000000001)
        history = "".join(f"{piece:016b}" for piece in pieces)
        for branch in range(8):
            self.check(history, 16, branch, pieces[0] ^ pieces[1] ^ pieces[2] ^ pieces[3] ^ branch)
            self.check(history[:16], 16, branch, pieces[0] ^ branch)
            self.check("1" + "0" * 16, 16, branch, 1 ^ branch)

    def test_the_empty_history(self):
        for bits in range(17):
            for branch in range(8):
                self.check("", bits, branch, branch % 2 ** bits)

    def test_the_branch_is_cut_to_the_bits(self):
        self.check("0", 1, 6, 0)
        self.check("0", 1, 7, 1)
        self.check("0", 2, 5, 1)
        self.check("0", 2, 7, 3)
        self.check("0", 3, 7, 7)
        self.check("11", 2, 4, 3)
        self.check("0", 16, 7, 7)

    def test_all_short_histories(self):
        for length in range(7):
            for digits in itertools.product("01", repeat=length):
                history = "".join(digits)
                for bits in (0, 1, 2, 3, 4, 5, 6, 7, 16):
                    for branch in range(8):
                        self.assertEqual(fold(history, bits, branch), told_fold(history, bits, branch))

    def test_long_histories(self):
        source = random.Random(5)
        histories = ["0" * 64, "1" * 64, "1" + "0" * 63, "0" * 63 + "1", "10" * 32, "1" * 63]
        histories += ["".join(source.choice("01") for _ in range(size)) for size in (17, 31, 32, 33, 48, 63, 64, 64)]
        for history in histories:
            for bits in range(17):
                for branch in range(8):
                    expected = told_fold(history, bits, branch)
                    self.check(history, bits, branch, expected)
                    self.assertTrue(0 <= expected < 2 ** bits)

    def test_somewhat_beyond_the_limits_there_is_no_error(self):
        self.check("1" * 65, 1, 0, 1)
        self.check("1" * 17, 17, 0, 2 ** 17 - 1)
        self.check("", 16, 8, 8)


if __name__ == "__main__":
    unittest.main()
