"""Crossings: points [12], [13] and the interface of borderflow/crossings.py."""

import random
import unittest

from borderflow.crossings import Crossing
from borderflow.errors import InvalidNumber, InvalidWord
from borderflow.halves import left_number, right_number
from borderflow.machines import move, same, wall
from borderflow.rows import Row
from tests.cases import Case, words
from tests.known import carry, flip, third

ANYTHING = (None, True, False, "1", (1,), [1], Row((0,)))


def some_crossings():
    chance = random.Random(1)
    for machine in (flip(), carry(), third(), ~carry(), move(2, 2), move(3, -1), same(5), wall()):
        for _ in range(3):
            guards = [tuple(chance.randrange(machine.signs) for _ in range(2 * machine.reach)) for _ in range(2)]
            yield machine, Crossing(machine, *guards)


class Crossings(Case):
    def test_attributes(self):
        machine = carry()
        crossing = Crossing(machine=machine, left_guard=(0, 1), right_guard=(2, 3))
        self.assertEqual(crossing.machine, machine)
        self.assertEqual((crossing.left_guard, crossing.right_guard), ((0, 1), (2, 3)))
        self.assertEqual(repr(crossing), "Crossing(2 left, 8 right)")
        self.assertEqual(repr(Crossing(wall(), (), ())), "Crossing(1 left, 1 right)")

    def test_words_match_pairs_one_to_one(self):
        for machine, crossing in some_crossings():
            told = [(left, right) for left in range(machine.left) for right in range(machine.right)]
            self.assertEqual(sorted(crossing.pairs()), told)
            self.assertEqual(len(crossing), machine.signs ** (2 * machine.reach))
            self.assertTrue(bool(crossing))
            self.assertEqual(list(crossing.pairs()),
                             [crossing.numbers(word) for word in words(2 * machine.reach, machine.signs)])
            for left, right in told:
                self.assertEqual(crossing.numbers(crossing.middle(left, right)), (left, right))

    def test_numbers_are_those_of_rows(self):
        for machine, crossing in some_crossings():
            for border in (-9999, -3, 0, 11):
                for left, right in list(crossing.pairs())[:12]:
                    row = crossing.filled(left, right, border)
                    self.assertEqual(left_number(machine, row, border), left)
                    self.assertEqual(right_number(machine, row, border), right)

    def test_filled(self):
        crossing = Crossing(carry(), (0, 1), (2, 3))
        row = crossing.filled(left_number=1, right_number=7, border=3)
        word = crossing.middle(left_number=1, right_number=7)
        self.assertEqual(row, Row((0,), (0, 1) + word + (2, 3), start=0))
        self.assertEqual(row[-1], 0)
        self.assertEqual(Crossing(carry(), (1, 1), (2, 3)).filled(0, 0, -9999).start, -10002)
        self.assertEqual(Crossing(same(3), (), ()).filled(0, 0, 5), Row((0,)))

    def test_wrong_guards(self):
        for wrong in ANYTHING + ((), (0, 1, 2), (0, 4), (0, -1), (0, True), [0, 1]):
            self.fails(InvalidWord, (wrong,), Crossing, carry(), wrong, None)
            self.fails(InvalidWord, (wrong,), Crossing, carry(), (0, 1), wrong)
        self.fails(InvalidWord, ((0,),), Crossing, same(2), (0,), ())

    def test_wrong_words(self):
        crossing = Crossing(carry(), (0, 1), (2, 3))
        for wrong in ANYTHING + ((), (0, 1, 2), (0, 4), (0, -1), (0, True), [0, 1]):
            self.fails(InvalidWord, (wrong,), crossing.numbers, wrong)
        self.assertEqual(crossing.numbers(word=(0, 0)), (0, 0))
        self.assertEqual(Crossing(same(2), (), ()).numbers(()), (0, 0))

    def test_wrong_numbers(self):
        crossing = Crossing(carry(), (0, 1), (2, 3))
        for call, more in ((crossing.middle, ()), (crossing.filled, (0,))):
            for wrong in (-1, 2) + ANYTHING:
                self.fails(InvalidNumber, (wrong,), call, wrong, 8, *more)
            for wrong in (-1, 8) + ANYTHING:
                self.fails(InvalidNumber, (wrong,), call, 1, wrong, *more)

    def test_errors_of_pairs(self):
        generator = Crossing(carry(), (0, 1), (2, 3)).pairs()
        self.assertEqual(next(generator), (0, 0))

    def test_equals_itself_alone(self):
        crossing = Crossing(carry(), (0, 1), (2, 3))
        self.assertTrue(crossing == crossing)
        self.assertFalse(crossing == Crossing(carry(), (0, 1), (2, 3)))


if __name__ == "__main__":
    unittest.main()
