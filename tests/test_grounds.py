"""Grounds: point [18] and the interface of borderflow/grounds.py."""

import itertools
import random
import unittest

from borderflow.errors import InvalidNumber, InvalidPart, InvalidWord
from borderflow.grounds import Ground
from borderflow.ratios import Ratio
from borderflow.rows import Row
from tests.cases import Case, some_row

ANYTHING = (None, True, False, "", "2", (), [], (None,), (True, 2), Row((0,)), Ratio(2))
MIXED = Ground(4, (0, 2), (3, 1), (5, 3))


def some_ground(chance, most=4):
    borders = sorted(chance.sample(range(-6, 7), chance.randint(0, 4)))
    return Ground(chance.randint(1, most), *[(border, chance.randint(1, most)) for border in borders])


class Making(Case):
    def test_borders_at_which_the_number_changes(self):
        ground = Ground(4, (-3, 4), (0, 2), (1, 2), (3, 1), (5, 3), (9999, 3))
        self.assertEqual(ground.parts(), [(0, 2), (3, 1), (5, 3)])
        self.assertEqual(ground.first, 4)
        self.assertEqual(ground, MIXED)
        self.assertEqual(repr(ground), "Ground(4, (0, 2), (3, 1), (5, 3))")
        self.assertEqual(Ground(2, (0, 2)).parts(), [])
        self.assertEqual(Ground(2, (0, 3), (1, 2)).parts(), [(0, 3), (1, 2)])

    def test_parts_are_new(self):
        MIXED.parts().append((7, 7))
        self.assertEqual(MIXED.parts(), [(0, 2), (3, 1), (5, 3)])

    def test_even(self):
        for signs in (1, 2, 16):
            self.assertEqual(Ground.even(signs), Ground(signs))
            self.assertEqual(Ground.even(signs=signs).parts(), [])
        self.assertEqual(repr(Ground.even(3)), "Ground(3)")
        for value in (*ANYTHING, 0, -1, 17):
            self.fails(InvalidNumber, (value,), Ground.even, value)
            self.fails(InvalidNumber, (value,), Ground, value)

    def test_wrong_parts(self):
        wrong = (
            *ANYTHING, 0, (0,), (0, 2, 2), [0, 2], (True, 2), (0, True), (0, 0), (0, 17), (0, -1), (10000, 2),
            (-10000, 2), ("0", 2), (0, "2"), (0, None), ((0, 2),),
        )
        for value in wrong:
            self.fails(InvalidPart, (0,), Ground, 2, value)
            self.fails(InvalidPart, (2,), Ground, 2, (-3, 4), (-1, 3), value, None)
        self.assertEqual(Ground(2, (-9999, 1), (9999, 16)).parts(), [(-9999, 1), (9999, 16)])

    def test_borders_that_do_not_ascend(self):
        self.fails(InvalidPart, (1,), Ground, 2, (0, 3), (0, 4))
        self.fails(InvalidPart, (1,), Ground, 2, (0, 3), (0, 3))
        self.fails(InvalidPart, (2,), Ground, 2, (0, 3), (4, 3), (3, 2))
        self.fails(InvalidPart, (1,), Ground, 2, (0, 2), (-1, 2), (5, 1))
        self.fails(InvalidPart, (1,), Ground, 2, (5, 3), None, (4, 3))

    def test_order_of_errors(self):
        self.fails(InvalidNumber, (17,), Ground, 17, None)
        self.fails(InvalidPart, (0,), Ground, 16, (0, 17), (0, 16))


class Cells(Case):
    def test_signs_of_cells(self):
        self.assertEqual([MIXED[cell] for cell in range(-2, 8)], [4, 4, 2, 2, 2, 1, 1, 3, 3, 3])
        self.assertEqual((MIXED[-99999], MIXED[99999]), (4, 3))
        with self.assertRaises(TypeError):
            iter(MIXED)

    def test_word_counts(self):
        self.assertEqual(MIXED.word_count(-1, 6), 4 * 8 * 3)
        self.assertEqual(MIXED.word_count(first=1, end=4), 4)
        self.assertEqual((MIXED.word_count(3, 5), MIXED.word_count(5, 5), MIXED.word_count(6, -6)), (1, 1, 1))
        self.assertEqual(MIXED.word_count(-2000, 2000), 4 ** 2000 * 8 * 3 ** 1995)

    def test_moved(self):
        self.assertEqual((MIXED >> 3).parts(), [(3, 2), (6, 1), (8, 3)])
        self.assertEqual((MIXED >> -3).parts(), [(-3, 2), (0, 1), (2, 3)])
        self.assertEqual((MIXED >> 3)[3], MIXED[0])
        self.assertEqual(MIXED >> 0, MIXED)
        self.assertEqual((MIXED >> 3) >> -3, MIXED)
        self.assertEqual(Ground(2) >> 5, Ground(2))
        self.assertEqual((Ground(2, (9999, 3)) >> 9999).parts(), [(19998, 3)])
        self.assertEqual(MIXED.parts(), [(0, 2), (3, 1), (5, 3)])

    def test_equal(self):
        for other in (Ground(4), Ground(4, (0, 2), (3, 1)), Ground(4, (0, 2), (3, 1), (5, 2)), MIXED >> 1, Ground(2)):
            self.assertFalse(MIXED == other)
            self.assertTrue(MIXED != other)
        self.assertFalse(Ground(3, (0, 2), (3, 1), (5, 3)) == MIXED)
        for value in (None, 4, (4,), [(0, 2), (3, 1), (5, 3)], "Ground(4)", Row((0,))):
            self.assertFalse(Ground(4) == value)
            self.assertFalse(MIXED == value)


class Words(Case):
    def test_leftmost_cell_is_the_highest_digit(self):
        self.assertEqual(MIXED.number_of(-1, (3, 1, 0, 1, 0, 0, 2)), ((3 * 8) + 5) * 3 + 2)
        self.assertEqual(MIXED.word_of(-1, 6, 89), (3, 1, 0, 1, 0, 0, 2))
        self.assertEqual(MIXED.number_of(at=4, word=(0, 2)), 2)
        self.assertEqual(MIXED.word_of(first=4, end=6, index=2), (0, 2))

    def test_stretches_without_cells(self):
        self.assertEqual((MIXED.number_of(2, ()), MIXED.word_of(2, 2, 0), MIXED.word_of(2, -2, 0)), (0, (), ()))
        self.fails(InvalidNumber, (1,), MIXED.word_of, 2, 2, 1)

    def test_all_words_in_order(self):
        chance = random.Random(1)
        for _ in range(30):
            ground = some_ground(chance)
            first = chance.randint(-7, 5)
            end = first + chance.randint(0, 4)
            words = list(itertools.product(*[range(ground[cell]) for cell in range(first, end)]))
            self.assertEqual(ground.word_count(first, end), len(words))
            for index, word in enumerate(words):
                self.assertEqual(ground.word_of(first, end, index), word)
                self.assertEqual(ground.number_of(first, word), index)

    def test_wrong_words(self):
        wrong = (
            *ANYTHING[:4], [], (None,), [0], (True,), (2,), (-1,), (0, 2), (0, 0, 2), (0, 0, 0, 1), (0, 0, 0, 0, 1),
            (0, 0, 0, 0, 0, 3), (0, "0"), "0", 0, Row((0,)),
        )
        for value in wrong:
            self.fails(InvalidWord, (value,), MIXED.number_of, 0, value)
        self.assertEqual(MIXED.number_of(-1, (2,)), 2)

    def test_wrong_indexes(self):
        for value in (*ANYTHING, -1, 96, 97):
            self.fails(InvalidNumber, (value,), MIXED.word_of, -1, 6, value)
        self.assertEqual(MIXED.word_of(-1, 6, 95), (3, 1, 1, 1, 0, 0, 2))


class Fitting(Case):
    def test_rows_that_fit(self):
        self.assertIsNone(MIXED.strange(Row((3,), (1, 1, 1, 0, 0), (2,))))
        self.assertIsNone(MIXED.strange(row=Row((0,))))
        self.assertIsNone(Ground(1).strange(Row((0,))))

    def test_nearest_to_0(self):
        self.assertEqual(MIXED.strange(Row((0,), (2,), (0,), start=1)), 1)
        self.assertEqual(MIXED.strange(Row((0,), (1,), (0,), start=3)), 3)
        self.assertEqual(MIXED.strange(Row((0,), (3,), (0,), start=4)), 4)
        self.assertEqual(MIXED.strange(Row((4,), (0,), (4,), start=-30)), 0)
        self.assertEqual(MIXED.strange(Row((4,), (), (0,), start=-30)), -31)
        self.assertEqual(MIXED.strange(Row((0,), (), (0, 3), start=40)), 41)
        self.assertEqual(Ground(2, (-50, 1), (-40, 2)).strange(Row((1,), (), (0,), start=-20)), -41)

    def test_equally_near_ones(self):
        self.assertEqual(Ground(2).strange(Row((0,), (2, 0, 0, 0, 2), (0,), start=-2)), -2)
        self.assertEqual(Ground(2, (0, 3)).strange(Row((2,), (0, 0, 0, 3), (3,), start=-1)), -2)
        self.assertEqual(Ground(2, (-1, 16)).strange(Row((2,), (2, 0, 2), (2,), start=-1)), -2)
        self.assertEqual(Ground(16, (-1, 2), (0, 3)).strange(Row((0,), (2, 2, 2), (2,), start=-1)), -1)
        self.assertEqual(Ground(16, (1, 2)).strange(Row((15,), (), (15,), start=-1)), 1)

    def test_borders_far_away(self):
        far = Ground(2, (0, 1)) >> 999999999
        self.assertEqual(far.strange(Row((1,))), 999999999)
        self.assertEqual((far >> -1999999998).strange(Row((2,), (), (1, 0), start=-5)), -1)
        self.assertEqual(Ground(1, (7, 2)).strange(Row((0,), (), (1,), start=9) >> 5), None)
        self.assertEqual(repr(Ground(1, (7, 2)) >> 10 ** 5000), "Ground(1, (1" + "0" * 4999 + "7, 2))")
        self.assertEqual(repr(Ground(1, (7, 2)) >> -7 - 10 ** 5000), "Ground(1, (-1" + "0" * 5000 + ", 2))")

    def test_as_a_plain_search_says(self):
        chance = random.Random(2)
        for _ in range(1000):
            ground = some_ground(chance)
            row = some_row(chance, chance.randint(1, 4)) >> chance.randint(-30, 30)
            strange = [cell for cell in range(-60, 60) if row[cell] >= ground[cell]]
            told = min(strange, key=lambda cell: (abs(cell), cell), default=None)
            self.assertEqual(ground.strange(row), told, (ground, row))


if __name__ == "__main__":
    unittest.main()
