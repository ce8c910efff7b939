"""leads_to, is_way, way_of, pattern_of and ways_count."""

import itertools
import random
import unittest

from pastenough.errors import TooShort
from pastenough.lengths import reach
from pastenough.traces import root_of, trace_of
from pastenough.ways import is_way, leads_to, pattern_of, way_of, ways_count
from tests.model import told_reach, told_steady, told_walks
from tests.samples import ANY_VALUES, ExactTest, Unchanged, kinds

LOOP_WAY = ("110", "101", "011", "111")
LENGTHS = (1, 2, 3, 4, 5, 6, 7, 8, 9, 63, 64)


def patterns_up_to(size):
    return [pattern for many in range(1, size + 1) for pattern in itertools.product((0, 1), repeat=many)]


def large_patterns():
    source = random.Random(21)
    made = [(0,) * 63 + (1,), (1,) + (0,) * 63, (0, 1) * 32, (1,) * 64, (0,) * 32 + (1,) * 32, (0, 1, 1) * 21]
    for size in (16, 33, 63, 64):
        made += [tuple(source.randint(0, 1) for _ in range(size)) for _ in range(3)]
    return made


class LeadsToTest(ExactTest):
    def test_plain_nodes(self):
        self.same(leads_to("011"), ("110", "111"))
        self.same(leads_to("0"), ("0", "1"))
        self.same(leads_to("1"), ("0", "1"))
        self.same(leads_to("10"), ("00", "01"))
        self.same(leads_to("1" + "0" * 63), ("0" * 64, "0" * 63 + "1"))
        self.same(leads_to("1" * 64), ("1" * 63 + "0", "1" * 64))

    def test_all_short_nodes(self):
        for length in range(1, 7):
            nodes = ["".join(digits) for digits in itertools.product("01", repeat=length)]
            for node in nodes:
                followers = tuple(other for other in nodes if other[:-1] == node[1:])
                self.same(leads_to(node), followers)

    def test_arguments_by_name(self):
        self.same(leads_to(node="01"), ("10", "11"))


class IsWayTest(ExactTest):
    def check(self, length, value, expected):
        with self.subTest(length=length, value=value), Unchanged(self, value):
            self.same(is_way(length, value), expected)
            self.same(is_way(value=value, length=length), expected)

    def test_plain_ways(self):
        for length, value in (
            (1, ("0",)), (1, ("1",)), (1, ("0", "1")), (1, ("1", "0")), (2, ("01", "11", "10")), (3, LOOP_WAY),
            (2, ("00",)), (2, ("01", "10")), (2, ("00", "01", "11", "10")), (64, ("0" * 64,)), (64, ("1" * 64,)),
            (64, ("01" * 32, "10" * 32)), (5, ("01010", "10101")),
        ):
            self.check(length, value, True)

    def test_plain_values_that_are_no_ways(self):
        for length, value in (
            (1, ()), (1, ("0", "0")), (1, ("0", "1", "0")), (1, ("2",)), (1, ("00",)), (2, ("01", "11")), (2, ("01",)),
            (2, ("01", "10", "01", "10")), (2, ("00", "11")), (2, ("10", "11", "01")), (3, LOOP_WAY[::-1]),
            (2, LOOP_WAY), (4, LOOP_WAY), (3, LOOP_WAY[1:]), (3, LOOP_WAY + LOOP_WAY), (3, LOOP_WAY + LOOP_WAY[:1]),
            (64, ("0" * 63,)), (64, ("0" * 65,)), (64, ("0" * 64, "1" * 64)), (63, ("0" * 64,)), (1, ("",)), (1, (" ",)),
        ):
            self.check(length, value, False)

    def test_what_is_nearly_a_way(self):
        for value in (
            list(LOOP_WAY), (LOOP_WAY,), dict.fromkeys(LOOP_WAY), " ".join(LOOP_WAY), LOOP_WAY[0],
            LOOP_WAY[:3] + (111,), LOOP_WAY[:3] + (("111",),), LOOP_WAY[:3] + (["111"],), LOOP_WAY[:3] + (None,),
            LOOP_WAY[:3] + ("11",), LOOP_WAY[:3] + ("1111",), LOOP_WAY[:3] + ("11 ",), LOOP_WAY[:3] + ("112",),
            LOOP_WAY[:3] + (("1", "1", "1"),), LOOP_WAY[:3] + (("1", "1", "1"), "111"), LOOP_WAY[:3] + ("11\n",),
            ([],) + LOOP_WAY, LOOP_WAY + ({},), LOOP_WAY + ("",), LOOP_WAY + (True,),
        ):
            self.check(3, value, False)
        for value in ((0,), (1,), (True,), (False,), (("0",),), (["0"],), "0", "01", ["0"], {"0": "0"}, (None,), 0):
            self.check(1, value, False)

    def test_any_value(self):
        right = {1: [kinds(("0",))], 2: [], 3: [], 64: []}
        for length, ways in right.items():
            for value in ANY_VALUES:
                self.check(length, value, kinds(value) in ways)

    def test_all_tuples_of_few_nodes(self):
        for length, most in ((1, 3), (2, 5), (3, 4)):
            nodes = ["".join(digits) for digits in itertools.product("01", repeat=length)]
            ways = told_walks(length, most)
            turned = {way[at:] + way[:at] for way in ways for at in range(len(way))}
            for size in range(1, most + 1):
                for value in itertools.product(nodes, repeat=size):
                    self.assertIs(is_way(length, value), value in turned, (length, value))

    def test_a_way_through_all_nodes(self):
        node = "0" * 10
        nodes = {node: True}
        while len(nodes) < 1024:
            node = max(other for other in (node[1:] + "0", node[1:] + "1") if other not in nodes)
            nodes[node] = True
        way = tuple(nodes)
        self.check(10, way, True)
        self.check(10, way[1:] + way[:1], True)
        self.check(10, way[:5] + way[6:], False)
        self.check(10, way + way[:1], False)


class WayOfTest(ExactTest):
    def test_plain_ways(self):
        self.same(way_of((1, 1, 1, 0), 3), LOOP_WAY)
        self.same(way_of((1, 1, 1, 0), 4), ("1110", "1101", "1011", "0111"))
        self.same(way_of((0,), 1), ("0",))
        self.same(way_of((1, 1), 2), ("11",))
        self.same(way_of((0, 1), 1), ("1", "0"))
        self.same(way_of((1, 0, 1, 0), 3), ("010", "101"))

    def test_the_reach_of_what_is_too_short(self):
        for pattern, length, least in (
            ((1, 1, 1, 0), 2, 3), ((1, 1, 1, 0), 1, 3), ((0, 0, 1, 1), 1, 2), ((0,) * 63 + (1,), 62, 63),
            ((0,) * 63 + (1,), 1, 63), ((1, 1, 1, 0) * 16, 2, 3),
        ):
            with self.assertRaises(TooShort) as caught:
                way_of(pattern, length)
            self.same(caught.exception.reach, least)
            with self.assertRaises(TooShort) as caught:
                way_of(length=length, pattern=pattern)
            self.same(caught.exception.reach, least)

    def check(self, pattern, length, least):
        with self.subTest(pattern=pattern, length=length):
            if least > length:
                with self.assertRaises(TooShort) as caught:
                    way_of(pattern, length)
                self.same(caught.exception.reach, least)
                return
            root = root_of(pattern)
            way = way_of(pattern, length)
            self.same(way, told_steady(trace_of(root), ("shared", length)))
            self.same(is_way(length, way), True)
            self.same(pattern_of(way), root)

    def test_all_short_patterns(self):
        for pattern in patterns_up_to(7):
            least = told_reach(pattern)
            for length in LENGTHS:
                self.check(pattern, length, least)

    def test_large_patterns(self):
        for pattern in large_patterns():
            least = reach(pattern)
            for length in {1, max(1, least - 1), max(1, least), 63, 64}:
                self.check(pattern, length, least)

    def test_one_and_sixty_four_outcomes(self):
        self.same(way_of((1,), 64), ("1" * 64,))
        self.same(way_of((0,) * 64, 1), ("0",))
        way = way_of((0,) * 63 + (1,), 63)
        self.same(way[:2], ("0" * 62 + "1", "0" * 61 + "10"))
        self.same((len(way), way[-1]), (64, "0" * 63))

    def test_arguments_by_name(self):
        self.same(way_of(length=3, pattern=(1, 1, 1, 0)), LOOP_WAY)


class PatternOfTest(ExactTest):
    def test_plain_ways(self):
        self.same(pattern_of(LOOP_WAY), (1, 1, 1, 0))
        self.same(pattern_of(("0",)), (0,))
        self.same(pattern_of(("1" * 64,)), (1,))
        self.same(pattern_of(("1", "0")), (0, 1))
        self.same(pattern_of(("0", "1")), (1, 0))
        self.same(pattern_of(("01", "11", "10")), (1, 0, 1))

    def test_the_pattern_makes_the_way(self):
        for length in (1, 2, 3, 4):
            for way in told_walks(length, 8):
                for at in range(len(way)):
                    turned = way[at:] + way[:at]
                    self.same(way_of(pattern_of(turned), length), turned)

    def test_sixty_four_nodes(self):
        for pattern in ((0,) * 63 + (1,), (0,) * 32 + (1,) * 32):
            self.same(pattern_of(way_of(pattern, 64)), pattern)

    def test_arguments_by_name(self):
        self.same(pattern_of(way=LOOP_WAY), (1, 1, 1, 0))


class WaysCountTest(ExactTest):
    def test_plain_counts(self):
        self.same([ways_count(2, nodes) for nodes in range(1, 6)], [2, 1, 2, 1, 0])
        self.same([ways_count(1, nodes) for nodes in range(1, 15)], [2, 1] + [0] * 12)
        self.same([ways_count(3, nodes) for nodes in range(1, 10)], [2, 1, 2, 3, 2, 3, 4, 2, 0])

    def test_all_closed_walks(self):
        for length, most in ((1, 14), (2, 14), (3, 14), (4, 14), (5, 14), (6, 12), (7, 10), (8, 9)):
            sizes = [len(way) for way in told_walks(length, most)]
            self.same([ways_count(length, nodes) for nodes in range(1, most + 1)],
                      [sizes.count(nodes) for nodes in range(1, most + 1)])

    def test_long_nodes(self):
        # All primitive patterns of at most 14 outcomes have a reach of at most 13.
        primitive = [2, 1, 2, 3, 6, 9, 18, 30, 56, 99, 186, 335, 630, 1161]
        for length in (13, 14, 63, 64):
            self.same([ways_count(length, nodes) for nodes in range(1, 15)], primitive)
        self.same(ways_count(12, 14), 1161 - 84 // 14)

    def test_arguments_by_name(self):
        self.same(ways_count(nodes=3, length=2), 2)


class SomewhatBeyondTest(ExactTest):
    """The interface: no error for what is somewhat beyond a limit."""

    def test_more_and_less(self):
        self.same(ways_count(65, 1), 2)
        self.same(ways_count(2, 15), 0)
        self.same(ways_count(2, 0), 0)
        self.same(is_way(65, ("0" * 65,)), True)
        self.same(way_of((0,) * 64 + (1,), 65)[0], "0" * 64 + "1")
        self.same(leads_to("0" * 65), ("0" * 65, "0" * 64 + "1"))
        self.same(is_way(0, ("0",)), False)
        self.assertIn(pattern_of(way_of((1, 1), 0)), ((0,), (1,)))
        with self.assertRaises(TooShort) as caught:
            way_of((0, 1), 0)
        self.same(caught.exception.reach, 1)


if __name__ == "__main__":
    unittest.main()
