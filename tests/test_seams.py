"""Seams: points [12], [19], [21] and the interface of borderflow/seams.py."""

import itertools
import random
import unittest

from borderflow.errors import InvalidMatching, InvalidNumber, InvalidWord, UnlikeFlows
from borderflow.machines import move, same, wall
from borderflow.ratios import Ratio
from borderflow.rows import Row
from borderflow.seams import Seam
from tests.cases import Case
from tests.known import carry, flip, third

ANYTHING = (None, True, False, "", "2", (), [], (None,), (True, 2), Row((0,)), Ratio(2))


def mixed(**named):
    """Carry beside two signs that move to the right: the words of two cells are 8, lambda is below 2, rho below 4."""
    return Seam(carry(), move(2, 1), **named)


class Making(Case):
    def test_attributes(self):
        seam = mixed()
        self.assertEqual((seam.one, seam.other, seam.size, seam.flow), (carry(), move(2, 1), 8, Ratio(2)))
        self.assertEqual(seam.matching, (0, 1, 2, 3, 4, 5, 6, 7))
        self.assertEqual(len(seam), 8)
        self.assertIs(bool(seam), True)
        self.assertEqual(repr(seam), "Seam(8 words, flow 2)")
        self.assertEqual(repr(Seam(one=third(), other=third())), "Seam(36 words, flow 1/3)")

    def test_drawn_matchings(self):
        drawn = [7, 0, 6, 1, 5, 2, 4, 3]
        seam = mixed(matching=drawn)
        drawn[0] = 8
        self.assertEqual(seam.matching, (7, 0, 6, 1, 5, 2, 4, 3))
        self.assertEqual(mixed(matching=seam.matching), seam)

    def test_sizes(self):
        for one, other, size in (
            (wall(), wall(), 1), (flip(), wall(), 4), (wall(), flip(), 4), (flip(), flip(), 16), (same(16), same(3), 1),
            (move(16, 1), move(16, 1), 256), (move(16, -1), move(16, -1), 256), (carry(), carry(), 16),
            (move(2, 4), move(16, 1), 256), (move(4, -1), move(2, -2), 16),
        ):
            seam = Seam(one, other)
            self.assertEqual((seam.size, len(seam)), (size, size))
            self.assertEqual(size, one.signs ** one.reach * other.signs ** other.reach)
            self.assertEqual(size, one.left * other.right)

    def test_unlike_flows(self):
        self.fails(UnlikeFlows, (Ratio(2), Ratio(1)), Seam, carry(), flip())
        self.fails(UnlikeFlows, (Ratio(1), Ratio(2)), Seam, wall(), carry())
        self.fails(UnlikeFlows, (Ratio(2), Ratio(1)), Seam, move(2, 1), move(3, 0))
        self.fails(UnlikeFlows, (Ratio(1, 3), Ratio(3)), Seam, third(), ~third())

    def test_wrong_matchings(self):
        for value in (*ANYTHING[1:], 8, [0] * 7, tuple(range(9)), range(8), {k: k for k in range(8)}, "01234567"):
            with self.assertRaises(InvalidMatching) as caught:
                mixed(matching=value)
            self.shows(InvalidMatching, (-1,), caught.exception)

    def test_wrong_items(self):
        for item in (8, -1, True, False, "1", None, 0, (1,), Row((0,)), Ratio(1)):
            for at in (1, 7):
                matching = list(range(8))
                matching[at] = item
                for value in (matching, tuple(matching)):
                    self.fails(InvalidMatching, (at,), Seam, carry(), move(2, 1), matching=value)
        self.fails(InvalidMatching, (2,), Seam, carry(), move(2, 1), matching=[1, 0, 1, 0, 9, None, 6, 7])
        self.fails(InvalidMatching, (0,), Seam, wall(), wall(), matching=[1])

    def test_order_of_errors(self):
        self.fails(UnlikeFlows, (Ratio(2), Ratio(1)), Seam, carry(), flip(), matching=0)
        self.fails(InvalidMatching, (-1,), Seam, carry(), carry(), matching=[0, 0])

    def test_equal(self):
        self.assertTrue(mixed() == mixed(matching=list(range(8))))
        for other in (
            mixed(matching=[1, 0, 2, 3, 4, 5, 6, 7]), Seam(carry(), carry()), Seam(move(2, 1), carry()),
            Seam(move(2, 1), move(2, 1)),
        ):
            self.assertFalse(mixed() == other)
            self.assertTrue(mixed() != other)
        self.assertFalse(Seam(flip(), same(2)) == Seam(same(2), flip()))
        # one matching, and one machine that is the same
        self.assertFalse(Seam(flip(), same(2)) == Seam(flip(), same(3)))
        self.assertFalse(Seam(same(2), flip()) == Seam(same(3), flip()))
        for value in (None, 8, tuple(range(8)), "Seam(8 words, flow 2)", carry(), Ratio(2)):
            self.assertFalse(mixed() == value)


class Numbers(Case):
    def test_plain(self):
        words = list(itertools.product(range(4), range(2)))
        for index, word in enumerate(words):
            self.assertEqual(mixed().numbers(word), (index // 4, index % 4))
            self.assertEqual(mixed().middle(index // 4, index % 4), word)

    def test_drawn(self):
        seam = mixed(matching=(7, 0, 6, 1, 5, 2, 4, 3))
        self.assertEqual(seam.numbers((0, 0)), (1, 3))
        self.assertEqual(seam.numbers(word=(0, 1)), (0, 0))
        self.assertEqual(seam.numbers((2, 1)), (0, 2))
        self.assertEqual(seam.middle(0, 1), (1, 1))
        self.assertEqual(seam.middle(left_number=1, right_number=0), (3, 0))

    def test_one_to_one(self):
        chance = random.Random(3)
        for one, other in ((flip(), wall()), (wall(), flip()), (flip(), flip()), (third(), third()), (wall(), same(3))):
            matching = list(range(Seam(one, other).size))
            chance.shuffle(matching)
            seam = Seam(one, other, matching=matching)
            words = itertools.product(*[range(one.signs)] * one.reach, *[range(other.signs)] * other.reach)
            pairs = [seam.numbers(word) for word in words]
            self.assertEqual([left * other.right + right for left, right in pairs], matching)
            self.assertEqual(sorted(pairs), list(itertools.product(range(one.left), range(other.right))))
            for pair in pairs:
                self.assertEqual(seam.numbers(seam.middle(*pair)), pair)

    def test_without_cells(self):
        seam = Seam(wall(), same(3))
        self.assertEqual((seam.numbers(()), seam.middle(0, 0)), ((0, 0), ()))
        self.fails(InvalidWord, ((0,),), seam.numbers, (0,))

    def test_wrong_words(self):
        wrong = (
            *ANYTHING, (0,), (0, 0, 0), (4, 0), (0, 2), (-1, 0), (0, True), (False, 0), [0, 0], ("0", 0), "00",
        )
        for value in wrong:
            self.fails(InvalidWord, (value,), mixed().numbers, value)
        self.fails(InvalidWord, ((2, 0),), Seam(move(2, 1), carry()).numbers, (2, 0))
        self.assertEqual(Seam(move(2, 1), carry()).numbers((1, 3)), (0, 7))

    def test_wrong_numbers(self):
        for value in (*ANYTHING, -1, 2):
            self.fails(InvalidNumber, (value,), mixed().middle, value, 0)
            self.fails(InvalidNumber, (value,), mixed().middle, value, None)
        for value in (*ANYTHING, -1, 4):
            self.fails(InvalidNumber, (value,), mixed().middle, 1, value)


if __name__ == "__main__":
    unittest.main()
