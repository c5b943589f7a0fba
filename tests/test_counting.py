"""Counts at a border of a floor: points [11], [12], [33] and the interface of borderflow/counting.py."""

import itertools
import random
import unittest

from borderflow.counting import border_counts, border_halves
from borderflow.errors import InvalidNumber, InvalidSide, InvalidWord, TooMany
from borderflow.exchanges import Exchange
from borderflow.floors import Closed, Floor, moving_floor
from borderflow.grounds import Ground
from borderflow.halves import counts, halves
from borderflow.machines import Machine, move, same, wall
from borderflow.ratios import Ratio
from borderflow.rows import Row
from borderflow.rules import Rule
from tests.cases import Case
from tests.known import carry, flip

ANYTHING = (None, True, False, "", "right", [], (None,), (True,), Row((0,)), Ratio(1))
TURN = Machine(Rule(3, 0, 0, (1, 2, 0)))
BITS = Floor([move(2, 1), move(2, 1)], matchings=[(2, 0, 1, 3)])
GUARDED = (0, 1, 2, 3, 5, 4, 7, 6)


def some_word(chance, ground, first, end):
    return tuple(chance.randrange(ground[cell]) for cell in range(first, end))


def plain_halves(floor, x, context, side, reach):
    """The halves by the words of point [33] alone, with any signs in cells that are further away."""
    chance = random.Random(reach)
    found = set()
    ground = floor.ground
    for word in itertools.product(*[range(ground[cell]) for cell in range(x - reach, x + reach)]):
        first = x - 4 * reach
        far = some_word(chance, ground, first, x - reach), some_word(chance, ground, x + reach, x + 4 * reach)
        if side == "right":
            told = (*far[0], *word, *context, *far[1][2 * reach:])
            found.add(floor.step(Row((0,), told, (0,), start=first)).word(x, x + 2 * reach))
        else:
            told = (*far[0][:reach], *context, *word, *far[1])
            found.add(floor.step(Row((0,), told, (0,), start=first)).word(x - 2 * reach, x))
    return sorted(found)


def small_floors():
    """Floors with borders and numbers R with few words."""
    return [
        (Floor([flip()]), -3, 2), (Floor([flip()]), 0, 3), (BITS, 0, 4), (BITS, 0, 5), (BITS, -2, 4), (BITS, 3, 4),
        (Floor([carry()]), 5, 1), (Floor([carry()]), 0, 2), (Floor([wall(), flip()]), 0, 7), (Floor([wall()]), 0, 99),
        (Floor([flip(), wall()]), 2, 7), (Floor([move(2, -1), move(2, -1)]), 1, 4), (Floor([wall()]), 0, 0),
        (Floor([TURN, same(2)]), 0, 0), (Floor([TURN, same(2)]), 1, 3), (moving_floor([carry(), wall()]), 1, 3),
        (Floor([same(2), wall(), flip()], widths=[5]), 5, 7), (Closed([move(2, 1) * move(2, -1)], [4]), 2, 3),
        (Closed([flip()], [9]), 0, 8), (Closed([flip()], [8]), 9, 7),
        (BITS.with_edit(Exchange(Ground(2), -1, 1, (1, 2, 3, 0))), 0, 5),
        (Floor([same(2)], edits=[Exchange(Ground(2), 0, 3, GUARDED)]), 2, 2),
    ]


class Halves(Case):
    def test_as_the_words_say(self):
        chance = random.Random(1)
        for floor, x, reach in small_floors():
            right = some_word(chance, floor.ground, x + reach, x + 3 * reach)
            told = plain_halves(floor, x, right, "right", reach)
            self.assertEqual(border_halves(floor, x, right, side="right", reach=reach), told)
            left = some_word(chance, floor.ground, x - 3 * reach, x - reach)
            told = plain_halves(floor, x, left, "left", reach)
            self.assertEqual(border_halves(floor, x, left, side="left", reach=reach), told)

    def test_least_reach(self):
        chance = random.Random(2)
        for floor, x, reach in small_floors():
            if reach == floor.reach:
                context = some_word(chance, floor.ground, x + reach, x + 3 * reach)
                told = border_halves(floor, x, context, side="right", reach=reach)
                self.assertEqual(border_halves(floor, x, context, side="right"), told)
                self.assertEqual(border_halves(floor=floor, border=x, context=context, side="right", reach=None), told)

    def test_floors_of_one_zone_are_as_machines(self):
        for machine, reach in ((flip(), 2), (flip(), 3), (carry(), 1), (carry(), 2), (move(2, 3), 3), (TURN, 0)):
            if machine.signs ** (2 * reach) > 256:
                continue
            floor = Floor([machine])
            context = (machine.signs - 1, 0) * reach
            for side in ("left", "right"):
                told = halves(machine, context, side=side, reach=reach)
                for border in (0, -7, 40):
                    self.assertEqual(border_halves(floor, border, context, side=side, reach=reach), told)
            self.assertEqual(border_counts(floor, 5, reach=reach), counts(machine, reach=reach))

    def test_without_a_reach(self):
        floor = Floor([TURN, same(2)])
        self.assertEqual(border_halves(floor, 0, (), side="left"), [()])
        self.assertEqual(border_halves(floor, 0, (), side="right", reach=0), [()])
        self.assertEqual(border_halves(floor, 0, (0, 1), side="right", reach=1), [(0, 0), (1, 0)])
        self.assertEqual(border_halves(floor, 0, (0, 2), side="left", reach=1), [(0, 0), (0, 1), (0, 2)])
        self.assertEqual(border_counts(floor, 0), (1, 1))


class Counts(Case):
    def test_facts(self):
        chance = random.Random(3)
        for floor, x, reach in small_floors():
            left, right = border_counts(floor, x, reach=reach)
            ground = floor.ground
            self.assertEqual(left * right, ground.word_count(x - reach, x + reach))
            self.assertEqual(Ratio(right, ground.word_count(x, x + reach)), floor.flow)
            for _ in range(2):
                context = some_word(chance, ground, x + reach, x + 3 * reach)
                self.assertEqual(len(border_halves(floor, x, context, side="right", reach=reach)), right)
                context = some_word(chance, ground, x - 3 * reach, x - reach)
                self.assertEqual(len(border_halves(floor, x, context, side="left", reach=reach)), left)

    def test_at_the_seam_and_beside_it(self):
        floor = Floor([carry(), move(2, 1)])
        self.assertEqual(floor.reach, 4)
        self.assertEqual(border_counts(floor, 0), (128, 32))
        self.assertEqual(border_counts(floor=floor, border=1, reach=4), (64, 32))
        self.assertEqual(border_counts(floor, 2, reach=None), (32, 32))
        self.assertEqual(border_counts(floor, 9), (8, 32))
        self.assertEqual(border_counts(floor, 3, reach=5), (64, 64))


class Errors(Case):
    def test_wrong_sides(self):
        for value in (*ANYTHING[:4], *ANYTHING[5:], "Right", "both", b"left", "left ", 0):
            self.fails(InvalidSide, (value,), border_halves, BITS, 0, None, side=value, reach=3)

    def test_wrong_reaches(self):
        for value in (*ANYTHING[1:], 3, -1, 100):
            for call in (lambda **named: border_halves(BITS, 0, None, side="left", **named),
                         lambda **named: border_counts(BITS, 0, **named)):
                self.fails(InvalidNumber, (value,), call, reach=value)
        self.assertEqual(border_counts(BITS, 0, reach=4), (8, 32))

    def test_limit_of_words(self):
        self.assertEqual(border_counts(BITS, 0, reach=6), (32, 128))
        self.fails(TooMany, ("words", 2 ** 14), border_counts, BITS, 0, reach=7)
        self.fails(TooMany, ("words", 2 ** 14), border_halves, BITS, 0, None, side="right", reach=7)
        self.fails(TooMany, ("words", 2 ** 14), border_counts, Floor([flip(), same(2)]), 0)
        self.fails(TooMany, ("words", 4 ** 7 * 2), border_counts, Floor([carry(), move(2, 1)]), -3)
        self.assertEqual(border_counts(Floor([wall()]), 9999, reach=99), (1, 1))

    def test_wrong_contexts(self):
        floor = Floor([wall(), TURN, same(2)], widths=[2])
        # [1, 3) has three signs and then two, [-3, -1) has one
        for value in (*ANYTHING, (), (0,), (0, 0, 0), (3, 0), (0, 2), (-1, 0), [0, 0], (0, True), "00", 0):
            self.fails(InvalidWord, (value,), border_halves, floor, 0, value, side="right", reach=1)
        for value in (*ANYTHING, (), (0, 1), (1, 0), [0, 0], (0, False)):
            self.fails(InvalidWord, (value,), border_halves, floor, 0, value, side="left", reach=1)
        self.assertEqual(border_halves(floor, 0, (2, 1), side="right", reach=1), [(0, 0), (1, 0), (2, 0)])
        self.assertEqual(border_halves(floor, 0, (0, 0), side="left", reach=1), [(0, 0)])

    def test_order_of_errors(self):
        self.fails(InvalidSide, (1,), border_halves, BITS, 0, None, side=1, reach=None)
        self.fails(InvalidNumber, (3,), border_halves, BITS, 0, None, side="left", reach=3)
        self.fails(InvalidWord, (None,), border_halves, BITS, 0, None, side="left", reach=4)


if __name__ == "__main__":
    unittest.main()
