"""Halves, their counts and numbers: points [11], [12], [13] and the interface of borderflow/halves.py."""

import random
import unittest

from borderflow.errors import InvalidNumber, InvalidSide, InvalidWord, NotAllowed, TooMany
from borderflow.halves import counts, halves, is_halves, left_number, right_number
from borderflow.machines import move, same, wall
from borderflow.ratios import Ratio
from borderflow.rows import Row
from tests.cases import Case, some_row, words
from tests.known import carry, flip, third

ANYTHING = (None, True, False, 0, "1", (1,), [1], Row((0,)))


def machines():
    return [flip(), carry(), third(), ~carry(), carry().mirrored(), flip() >> 1, move(2, 3), move(3, -1), same(2),
            same(16), wall(), carry() ** 2, move(2, 1) * move(2, -1)]


def plain_halves(machine, context, side, reach):
    """The halves by the words of point [11] alone: from rows that have the context where it should stand."""
    found = set()
    for word in words(2 * reach, machine.signs):
        if side == "right":
            row = Row((0,), word + context, start=-reach)
            found.add(machine.step(row).word(0, 2 * reach))
        else:
            row = Row((0,), context + word, start=-3 * reach)
            found.add(machine.step(row).word(-2 * reach, 0))
    return sorted(found)


class Halves(Case):
    def test_plain_counterpart(self):
        chance = random.Random(1)
        for machine in machines():
            for more in (0, 1):
                reach = machine.reach + more
                if machine.signs ** (2 * reach) > 256:
                    continue
                for side in ("left", "right"):
                    for _ in range(3):
                        context = tuple(chance.randrange(machine.signs) for _ in range(2 * reach))
                        told = plain_halves(machine, context, side, reach)
                        self.assertEqual(halves(machine, context, side=side, reach=reach), told)
                        if not more:
                            self.assertEqual(halves(machine, context, side=side), told)

    def test_reach_0(self):
        for machine in (same(2), same(16), wall()):
            for side in ("left", "right"):
                self.assertEqual(halves(machine, (), side=side), [()])
                self.assertEqual(halves(machine=machine, context=(), side=side, reach=0), [()])
        self.assertEqual(halves(same(3), (2, 1), side="right", reach=1), [(0, 2), (1, 2), (2, 2)])
        self.assertEqual(halves(same(3), (2, 1), side="left", reach=1), [(1, 0), (1, 1), (1, 2)])
        self.assertEqual(halves(wall(), (0,) * 198, side="left", reach=99), [(0,) * 198])

    def test_where_a_border_stands_means_nothing(self):
        machine = carry()
        told = halves(machine, (1, 2), side="right")
        for border in (-7, 0, 9):
            found = {machine.step(Row((0,), word + (1, 2), start=border - 1)).word(border, border + 2)
                     for word in words(2, 4)}
            self.assertEqual(sorted(found), told)

    def test_a_new_list_each_time(self):
        halves(flip(), (0,) * 4, side="left").clear()
        self.assertEqual(len(halves(flip(), (0,) * 4, side="left")), 4)

    def test_order_of_errors(self):
        for wrong in (None, True, 0, "Left", "up", "", ("left",), ["right"], Row((0,))):
            self.fails(InvalidSide, (wrong,), halves, flip(), None, side=wrong, reach=True)
            self.fails(InvalidSide, (wrong,), is_halves, flip(), None, None, side=wrong, reach=True)
        for wrong in (1, 100, -1, True, False, "2", (2,), [2], Row((0,))):
            self.fails(InvalidNumber, (wrong,), halves, flip(), None, side="left", reach=wrong)
            self.fails(InvalidNumber, (wrong,), is_halves, flip(), None, None, side="left", reach=wrong)
            self.fails(InvalidNumber, (wrong,), counts, flip(), reach=wrong)
        for reach in (5, 99):
            self.fails(TooMany, ("halves", 4 ** reach), halves, flip(), None, side="left", reach=reach)
            self.fails(TooMany, ("halves", 4 ** reach), is_halves, flip(), None, None, side="left", reach=reach)
            self.fails(TooMany, ("halves", 4 ** reach), counts, flip(), reach=reach)
        for wrong in ANYTHING + ((), (0, 0, 0), (0,) * 5, [0] * 4, (0, 0, 0, 2), (0, 0, 0, True), (0, -1, 0, 0)):
            self.fails(InvalidWord, (wrong,), halves, flip(), wrong, side="right")
            self.fails(InvalidWord, (wrong,), is_halves, flip(), wrong, [], side="left")
        self.fails(InvalidWord, ((0,) * 4,), halves, flip(), (0,) * 4, side="right", reach=3)

    def test_sides_and_reach_are_told_by_name(self):
        with self.assertRaises(TypeError):
            halves(flip(), (0,) * 4, "left")
        with self.assertRaises(TypeError):
            halves(flip(), (0,) * 4)
        with self.assertRaises(TypeError):
            counts(flip(), 2)

    def test_is_halves(self):
        told = [(0, 0, 1, 0), (0, 1, 1, 0), (1, 0, 1, 0), (1, 1, 1, 0)]
        context = (1, 0, 0, 0)
        for right in (told, tuple(told), told[::-1], [told[2], told[0], told[3], told[1]]):
            self.assertIs(is_halves(machine=flip(), context=context, value=right, side="right"), True)
            self.assertIs(is_halves(flip(), context, right, side="left"), False)
            self.assertIs(is_halves(flip(), context, right, side="right", reach=2), True)
            self.assertIs(is_halves(flip(), context + (0, 0), right, side="right", reach=3), False)
        for wrong in (told[:3], told + told[:1], told[:3] + [told[0]], told[:3] + [list(told[3])], [],
                      told[:3] + [(1, 1, 1, False)], told[:3] + [(True, 1, 1, 0)], told[:3] + [None],
                      told[:3] + [(1, 1, 1, 2)], told[:3] + [(1, 1, 1)], told[:3] + ["1110"], dict.fromkeys(told),
                      *ANYTHING):
            self.assertIs(is_halves(flip(), context, wrong, side="right"), False)
        self.assertIs(is_halves(wall(), (), [()], side="right"), True)
        self.assertIs(is_halves(wall(), (), [], side="right"), False)


class Counts(Case):
    def test_facts_of_counts(self):
        for machine in machines():
            self.assertEqual(counts(machine), (machine.left, machine.right))
            for reach in range(machine.reach, machine.reach + 3):
                if machine.signs ** (2 * reach) > 256:
                    continue
                left, right = counts(machine=machine, reach=reach)
                power = machine.signs ** reach
                self.assertEqual(left * right, power * power)
                self.assertEqual(Ratio(right, power), machine.flow)

    def test_counts_do_not_depend_on_the_context(self):
        for machine in (flip(), carry(), ~carry(), move(2, 2)):
            for context in words(2 * machine.reach, machine.signs):
                self.assertEqual(len(halves(machine, context, side="right")), machine.right)
                self.assertEqual(len(halves(machine, context, side="left")), machine.left)

    def test_limit(self):
        self.assertEqual(counts(flip(), reach=4), (16, 16))
        self.assertEqual(counts(same(16), reach=1), (16, 16))
        self.fails(TooMany, ("halves", 16 ** 4), counts, same(16), reach=2)
        self.assertEqual(counts(same(16), reach=None), (1, 1))


class Numbers(Case):
    def test_plain_counterpart(self):
        chance = random.Random(2)
        for machine in machines():
            reach = machine.reach
            for _ in range(8):
                row = some_row(chance, machine.signs)
                border = chance.randint(-8, 8)
                new = machine.step(row)
                rights = halves(machine, row.word(border + reach, border + 3 * reach), side="right")
                told = rights.index(new.word(border, border + 2 * reach))
                self.assertEqual(right_number(machine, row, border), told)
                lefts = halves(machine, row.word(border - 3 * reach, border - reach), side="left")
                told = lefts.index(new.word(border - 2 * reach, border))
                self.assertEqual(left_number(machine, row, border), told)

    def test_some_numbers(self):
        self.assertEqual(right_number(machine=move(2, 1), row=Row((0,), (1,)), border=1), 2)
        self.assertEqual(left_number(machine=move(2, -1), row=Row((0,), (1,)), border=0), 1)
        self.assertEqual(left_number(same(3), Row((2,)), 9999), 0)
        self.assertEqual(right_number(same(3), Row((2,)), -9999), 0)

    def test_rows_that_are_not_allowed(self):
        for call in (left_number, right_number):
            self.fails(NotAllowed, (2, -1), call, flip(), Row((0,), (2, 1, 2), start=-1), 500)
            self.fails(NotAllowed, (3, 40), call, flip(), Row((0,), (3,), start=40), 0)


if __name__ == "__main__":
    unittest.main()
