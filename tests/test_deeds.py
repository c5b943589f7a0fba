"""Deeds: points [16], [17] and the interface of borderflow/deeds.py."""

import itertools
import unittest

from borderflow.deeds import deed_span, deed_text, inverse_deed, is_deed, is_sizes, sign_of, track_values
from borderflow.ratios import Ratio
from borderflow.rows import Row
from tests.cases import Case

ANYTHING = (None, True, False, 0, -1, 64, "", "2", (), [], (None,), ([2],), Row((0,)), Ratio(2))
MOVE = ("move", 0, 1)
SWAP = ("swap", (5, 4, 3, 2, 1, 0))
ADD = ("add", 1, ((0, -3), (0, 3)), (0, 1, 2, 0))


class Sizes(Case):
    def test_sizes(self):
        for value in ((1,), (64,), [2], (2, 3), [64] * 6, (1, 64, 1, 64, 1, 64)):
            self.assertIs(is_sizes(value), True, value)

    def test_no_sizes(self):
        for value in (*ANYTHING, (0,), (65,), (-1, 2), (2, True), (False,), (2, "2"), (2, None), [2] * 7, {2: 2}):
            self.assertIs(is_sizes(value), False, value)
        self.assertIs(is_sizes(value=[2]), True)


class Signs(Case):
    def test_first_track_is_the_highest_digit(self):
        self.assertEqual(track_values((2, 3), 5), (1, 2))
        self.assertEqual(sign_of((2, 3), (1, 2)), 5)
        self.assertEqual(track_values([4, 1, 2], 5), (2, 0, 1))
        self.assertEqual(track_values(sizes=(64,), sign=63), (63,))

    def test_all_signs_in_order(self):
        for sizes in ((5,), (2, 3), (3, 1, 2, 2)):
            values = list(itertools.product(*[range(size) for size in sizes]))
            for sign, each in enumerate(values):
                self.assertEqual(track_values(sizes, sign), each)
                self.assertEqual(sign_of(sizes, each), sign)
                self.assertEqual(sign_of(list(sizes), list(each)), sign)


class Moves(Case):
    def test_right_ones(self):
        for track in (0, 1):
            for d in (-12, -1, 0, 1, 12):
                self.assertIs(is_deed((2, 3), ("move", track, d)), True)
        self.assertIs(is_deed(sizes=[2], value=("move", 0, 1)), True)

    def test_wrong_ones(self):
        for value in ANYTHING:
            self.assertIs(is_deed((2, 3), value), False, value)
            self.assertIs(is_deed((2, 3), (value, 0, 1)), False, value)
            self.assertIs(is_deed((2, 3), ("move", 0, value)), value == 0 and value is not False or value == -1, value)
            if value is False or value != 0:
                self.assertIs(is_deed((2, 3), ("move", value, 1)), False, value)
        wrong = (
            ["move", 0, 1], ("move", 0), ("move",), ("move", 0, 1, 0), ("move", 2, 1), ("move", -1, 1),
            ("move", 0, 13), ("move", 0, -13), ("moved", 0, 1), ("Move", 0, 1), (MOVE,), ("move", (0, 1)),
        )
        for value in wrong:
            self.assertIs(is_deed((2, 3), value), False, value)


class Swaps(Case):
    def test_right_ones(self):
        self.assertIs(is_deed((2, 3), SWAP), True)
        self.assertIs(is_deed((1,), ("swap", (0,))), True)
        self.assertIs(is_deed((2, 2), ("swap", (0, 1, 2, 3))), True)

    def test_products_above_64(self):
        table = tuple(range(127, -1, -1))
        self.assertIs(is_deed((64, 2), ("swap", table)), True)
        self.assertIs(is_deed((64, 2), ("swap", table[:64])), False)
        self.assertIs(is_deed((64,) * 6, ("swap", table)), False)
        self.assertEqual(inverse_deed((64, 2), ("swap", (1, *range(2, 128), 0))), ("swap", (127, *range(127))))
        self.assertEqual(track_values((64, 64), 4095), (63, 63))

    def test_wrong_ones(self):
        wrong = (
            ("swap", [5, 4, 3, 2, 1, 0]), ("swap", (0, 1, 2, 3, 4)), ("swap", (0, 1, 2, 3, 4, 5, 6)),
            ("swap", (0, 1, 2, 3, 4, 4)), ("swap", (0, 1, 2, 3, 4, 6)), ("swap", (0, 1, 2, 3, 4, -1)),
            ("swap", (0, True, 2, 3, 4, 5)), ("swap", (False, 1, 2, 3, 4, 5)), ("swap", (0, 1, 2, 3, 4, "5")),
            ("move", (5, 4, 3, 2, 1, 0)), ("swap", (5, 4, 3, 2, 1, 0), 0), ("add", (5, 4, 3, 2, 1, 0)),
            ("swap", ()), ("swap",), ("swap", 0, (5, 4, 3, 2, 1, 0)), ["swap", (0, 1, 2, 3, 4, 5)], ("swap", 6),
        )
        for value in wrong:
            self.assertIs(is_deed((2, 3), value), False, value)
        for value in ANYTHING:
            self.assertIs(is_deed((2, 3), ("swap", value)), False, value)


class Adds(Case):
    def test_right_ones(self):
        right = (
            ADD, ("add", 0, (), (1,)), ("add", 1, (), (2,)), ("add", 0, ((1, 0),), (0, 1, 1)),
            ("add", 1, ((0, 3), (0, 2), (0, -1)), (0, 1, 2, 0, 1, 2, 0, 2)),
        )
        for value in right:
            self.assertIs(is_deed((2, 3), value), True, value)
        self.assertIs(is_deed((2, 3, 2), ("add", 2, ((1, 0), (0, 0), (1, 1)), (0, 1) * 9)), True)

    def test_wrong_tracks_and_tables(self):
        wrong = (
            ("add", 2, (), (0,)), ("add", -1, (), (0,)), ("add", True, (), (0,)), ("add", "1", (), (0,)),
            ("add", 1, (), ()), ("add", 1, (), (3,)), ("add", 1, (), (-1,)), ("add", 1, (), (True,)),
            ("add", 1, (), [0]), ("add", 1, (), (0, 0)), ("add", 1, (), 0), ("add", 1, (), None),
            ("move", 1, (), (0,)), ("swap", 1, (), (0,)), ("sub", 1, (), (0,)), ("add", 1, (), (0,), (0,)),
            ("add", 1, ((0, 0),), (0,)), ("add", 1, ((0, 0),), (0, 1, 2)), ("add", 0, ((1, 0),), (0, 1)),
            ("add", 0, ((1, 0),), (0, 1, 2)), ("add", 1, ()), ("add", 1, (), (0,), 0), ["add", 1, (), (0,)],
        )
        for value in wrong:
            self.assertIs(is_deed((2, 3), value), False, value)

    def test_wrong_reads(self):
        four = ((0, 0), (0, 1), (0, 2), (0, 3))
        wrong = (
            [(0, 0)], ([0, 0],), ((0,),), ((0, 0, 0),), ((1, 0),), ((2, 0),), ((-1, 0),), ((0, 4),), ((0, -4),),
            ((0, True),), ((False, 0),), ((0, "0"),), ((0, None),), (0, 0), ("00",), None, 0, "", (None,), (Row((0,)),),
        )
        for value in wrong:
            self.assertIs(is_deed((2, 3), ("add", 1, value, (0, 1))), False, value)
        self.assertIs(is_deed((2, 3), ("add", 1, ((0, 1), (0, 1)), (0, 1, 2, 0))), False)
        self.assertIs(is_deed((2, 3), ("add", 1, ((0, 1), (0, 2), (0, 1)), (0,) * 8)), False)
        self.assertIs(is_deed((2, 3), ("add", 1, four, (0,) * 16)), False)
        self.assertIs(is_deed((2, 3), ("add", 1, four[:3], (0,) * 8)), True)


class TakenBack(Case):
    def test_deeds(self):
        self.assertEqual(inverse_deed((2, 3), ("move", 1, 5)), ("move", 1, -5))
        self.assertEqual(inverse_deed((2, 3), ("move", 1, 0)), ("move", 1, 0))
        self.assertEqual(inverse_deed((2, 2), ("swap", (1, 2, 3, 0))), ("swap", (3, 0, 1, 2)))
        self.assertEqual(inverse_deed((2, 3), ADD), ("add", 1, ((0, -3), (0, 3)), (0, 2, 1, 0)))
        self.assertEqual(inverse_deed([2, 3], ("add", 0, (), (1,))), ("add", 0, (), (1,)))
        self.assertEqual(inverse_deed(sizes=(2, 3), deed=SWAP), SWAP)

    def test_back_again(self):
        for deed in (MOVE, ("swap", (1, 2, 5, 0, 3, 4)), ADD):
            self.assertEqual(inverse_deed((2, 3), inverse_deed((2, 3), deed)), deed)
            self.assertIs(is_deed((2, 3), inverse_deed((2, 3), deed)), True)


class Spans(Case):
    def test_moves(self):
        self.assertEqual(deed_span((4,), ("move", 0, 3)), (-3, -3))
        self.assertEqual(deed_span((4,), ("move", 0, -3)), (3, 3))
        self.assertEqual(deed_span((4, 1), ("move", 0, 3)), (-3, 0))
        self.assertEqual(deed_span([4, 1], ("move", 1, -3)), (0, 3))
        self.assertEqual(deed_span((4, 1), ("move", 1, 0)), (0, 0))

    def test_others(self):
        self.assertEqual(deed_span((2, 3), SWAP), (0, 0))
        self.assertEqual(deed_span((2, 3), ADD), (-3, 3))
        self.assertEqual(deed_span((2, 3), ("add", 0, (), (0,))), (0, 0))
        self.assertEqual(deed_span((2, 3), ("add", 1, ((0, 2),), (0, 1))), (0, 2))
        self.assertEqual(deed_span(sizes=(2, 3), deed=("add", 1, ((0, -1), (0, -2)), (0, 1, 0, 1))), (-2, 0))


class Texts(Case):
    def test_lines(self):
        self.assertEqual(deed_text(("move", 1, -12)), "move 1 -12")
        self.assertEqual(deed_text(SWAP), "swap 5 4 3 2 1 0")
        self.assertEqual(deed_text(deed=ADD), "add 1 0:-3 0:3 = 0 1 2 0")
        self.assertEqual(deed_text(("add", 0, (), (1,))), "add 0 = 1")


if __name__ == "__main__":
    unittest.main()
