"""Rules in another shape: points [8] and [14] and the interface of borderflow/shapes.py."""

import random
import unittest

from borderflow.errors import InvalidNumber, InvalidTable, NotAllowed, TooMany, UnlikeSigns
from borderflow.rows import Row
from borderflow.rules import Rule, move_rule, same_rule, sum_rule
from borderflow.shapes import first_unlike, grouped, mirrored, renamed, row_grouped, row_split
from borderflow.words import word_index
from tests.cases import CARRY, FLIP, Case, some_row, some_rule, words

ANYTHING = (None, True, False, "1", (1,), [1], Row((0,)))


def mirror(row):
    """The row that has in the cell -i what a row has in the cell i."""
    end = row.start + len(row.told)
    return Row(row.right[::-1], row.told[::-1], row.left[::-1], start=1 - end)


class Mirrored(Case):
    def test_does_the_same_to_mirrored_rows(self):
        chance = random.Random(1)
        for _ in range(100):
            rule = some_rule(chance)
            row = some_row(chance, rule.signs)
            self.assertEqual(mirror(row)[5], row[-5])
            self.assertEqual(mirrored(rule).step(mirror(row)), mirror(rule.step(row)))
            self.assertEqual(mirrored(mirrored(rule)), rule)

    def test_window(self):
        rule = mirrored(rule=Rule(2, -1, 2, FLIP))
        self.assertEqual((rule.low, rule.high), (-2, 1))
        self.assertEqual(mirrored(move_rule(3, 99)), move_rule(3, -99))
        self.assertEqual(mirrored(move_rule(3, 99) >> 99).low, 198)


class Renamed(Case):
    def test_names_stand_in_the_places_of_signs(self):
        chance = random.Random(2)
        for _ in range(100):
            rule = some_rule(chance)
            names = list(range(rule.signs))
            chance.shuffle(names)
            new = renamed(rule, tuple(names))
            self.assertEqual(new, renamed(rule=rule, names=names))
            ring = tuple(chance.randrange(rule.signs) for _ in range(6))
            told = tuple(names[sign] for sign in rule.ring_step(ring))
            self.assertEqual(new.ring_step(tuple(names[sign] for sign in ring)), told)

    def test_wrong_names(self):
        rule = Rule(4, -1, 0, CARRY)
        for wrong in (None, True, 4, "0123", (0, 1, 2), [0, 1, 2, 3, 3], ()):
            self.fails(InvalidTable, (-1,), renamed, rule, wrong)
        for wrong in (4, -1) + ANYTHING:
            self.fails(InvalidTable, (2,), renamed, rule, [3, 0, wrong, 0])
            self.fails(InvalidTable, (0,), renamed, rule, [wrong, 0, 1, 2])
        self.fails(InvalidTable, (2,), renamed, rule, (3, 0, 3, True))
        self.fails(InvalidTable, (3,), renamed, rule, (3, 0, 2, 2))
        self.assertEqual(renamed(rule, (0, 1, 2, 3)), rule)
        self.assertEqual(renamed(same_rule(1), [0]), same_rule(1))


class Grouped(Case):
    def test_does_the_same_to_grouped_rows(self):
        chance = random.Random(3)
        done = 0
        while done < 60:
            rule = some_rule(chance)
            m = chance.randint(1, 4)
            wide = (m - 1 + rule.high) // m - rule.low // m + 1
            if rule.signs ** m > 16 or rule.signs ** (m * wide) > 4096:
                continue
            done += 1
            row = some_row(chance, rule.signs)
            new = grouped(rule, m)
            self.assertEqual(new.signs, rule.signs ** m)
            told = row_grouped(rule.step(row), rule.signs, m)
            self.assertEqual(new.step(row_grouped(row, rule.signs, m)), told)

    def test_some_groups(self):
        rule = Rule(4, -1, 0, CARRY)
        self.assertEqual(grouped(rule=rule, m=1), rule)
        self.assertEqual(grouped(move_rule(2, 4), m=4), move_rule(16, 1))
        self.assertEqual(grouped(move_rule(2, -6), 3), move_rule(8, -2))
        self.assertEqual((grouped(move_rule(2, 1), 2).low, grouped(move_rule(2, 1), 2).high), (-1, 0))
        self.assertEqual(grouped(move_rule(1, 3), 4), same_rule(1))

    def test_wrong_numbers(self):
        for wrong in (0, 5, -1) + ANYTHING:
            self.fails(InvalidNumber, (wrong,), grouped, same_rule(16), wrong)

    def test_limits(self):
        self.fails(TooMany, ("signs", 256), grouped, sum_rule(16, -1, 1), 2)
        self.fails(TooMany, ("signs", 25), grouped, sum_rule(5, 0, 1), 2)
        self.assertEqual(grouped(same_rule(2), 4), same_rule(16))
        self.assertEqual(grouped(same_rule(4), 2), same_rule(16))
        self.assertEqual(len(grouped(sum_rule(2, -4, 4), 4).table), 4096)
        self.fails(TooMany, ("table", 16 ** 4), grouped, sum_rule(2, -5, 4), 4)
        self.fails(TooMany, ("table", 16 ** 4), grouped, sum_rule(2, -4, 5), 4)


class GroupedRows(Case):
    def test_cells_are_put_together(self):
        chance = random.Random(4)
        for _ in range(200):
            signs, m = chance.choice([(1, 3), (2, 1), (2, 2), (2, 4), (3, 3), (4, 3), (8, 2), (64, 1)])
            row = some_row(chance, signs)
            new = row_grouped(row, signs, m)
            for cell in range(-12, 12):
                self.assertEqual(new[cell], word_index(row.word(m * cell, m * cell + m), signs))
            self.assertEqual(row_split(new, signs, m), row)

    def test_cells_are_taken_apart(self):
        chance = random.Random(5)
        for _ in range(100):
            signs, m = chance.choice([(1, 2), (2, 1), (2, 2), (2, 4), (3, 3), (4, 3)])
            row = some_row(chance, signs ** m)
            new = row_split(row=row, signs=signs, m=m)
            self.assertEqual(row_grouped(row=new, signs=signs, m=m), row)

    def test_wrong_numbers(self):
        strange = Row((5,))
        for wrong in (0, 5, -1) + ANYTHING:
            self.fails(InvalidNumber, (wrong,), row_grouped, strange, 2, wrong)
            self.fails(InvalidNumber, (wrong,), row_split, strange, 2, wrong)

    def test_strange_signs(self):
        self.fails(NotAllowed, (2, -2), row_grouped, Row((0,), (2, 1, 1, 1, 3), start=-2), 2, 2)
        self.fails(NotAllowed, (4, -2), row_split, Row((0,), (4, 3, 3, 2, 5), start=-2), 2, 2)
        self.assertEqual(row_split(Row((3,)), 2, 2), Row((1,)))

    def test_beyond_the_bounds_of_starts(self):
        row = row_split(Row((0,), (1,), start=9999), 2, 4)
        self.assertEqual(row.start, 9999 * 4 + 3)
        self.assertEqual(row_grouped(row, 2, 4), Row((0,), (1,), start=9999))


class FirstUnlike(Case):
    def test_some_rules(self):
        chance = random.Random(6)
        for _ in range(200):
            signs = chance.randint(1, 3)
            one, other = some_rule(chance, signs, 2), some_rule(chance, signs, 2)
            if chance.random() < 0.3:
                other = Rule(signs, one.low, one.high, one.table)
            low, high = min(one.low, other.low), max(one.high, other.high)
            told = None
            for word in words(high - low + 1, signs):
                row = Row((0,), word, start=low)
                if told is None and one.step(row)[0] != other.step(row)[0]:
                    told = (low, word)
            self.assertEqual(first_unlike(one, other), told)
            self.assertEqual(told is None, one == other)

    def test_an_example(self):
        self.assertEqual(first_unlike(one=same_rule(2), other=move_rule(2, 1)), (-1, (0, 1)))
        self.assertEqual(first_unlike(same_rule(2), Rule(2, 0, 0, (1, 1))), (0, (0,)))
        self.assertIsNone(first_unlike(sum_rule(2, 0, 11), sum_rule(2, 0, 11)))

    def test_errors(self):
        self.fails(UnlikeSigns, (2, 3), first_unlike, sum_rule(2, 0, 11), sum_rule(3, 0, 6))
        self.fails(TooMany, ("table", 2 ** 13), first_unlike, same_rule(2), move_rule(2, 12))
        self.assertEqual(first_unlike(same_rule(2), move_rule(2, 11)), (-11, (0,) * 11 + (1,)))


if __name__ == "__main__":
    unittest.main()
