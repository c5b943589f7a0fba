"""Movers: points [14] and [36] and the interface of borderflow/movers.py."""

import random
import unittest

from borderflow.errors import TooMany
from borderflow.machines import Machine, move, same, wall
from borderflow.movers import movers, with_movers
from borderflow.ratios import Ratio
from borderflow.rows import Row
from borderflow.rules import Rule
from tests.cases import Case, some_row
from tests.known import carry, flip, third


def split(row, place, size):
    """The row of the values of a track."""
    def part(word):
        return tuple(sign // place % size for sign in word)

    return Row(part(row.left), part(row.told), part(row.right), start=row.start)


def two_thirds():
    """Six signs with a bit that moves to the right and one of three signs that moves to the left."""
    return move(2, 1) * move(3, -1)


class Movers(Case):
    def test_pairs(self):
        for machine, told in (
            (carry(), (1, 2)), (~carry(), (2, 1)), (flip(), (1, 1)), (third(), (3, 1)), (same(5), (1, 1)),
            (wall(), (1, 1)), (move(2, 3), (1, 8)), (move(3, -1), (3, 1)), (two_thirds(), (3, 2)), (~two_thirds(), (2, 3)),
        ):
            self.assertEqual(movers(machine), told)
            self.assertEqual(movers(machine=machine), told)
            self.assertIs(type(movers(machine)), tuple)

    def test_the_flow_becomes_1(self):
        for machine in (carry(), ~carry(), flip(), same(5), wall(), move(2, 1), move(2, -1), move(4, 1), move(3, -1)):
            whole = with_movers(machine)
            q, p = movers(machine)
            self.assertIs(type(whole), Machine)
            self.assertEqual((whole.signs, whole.flow), (machine.signs * q * p, Ratio(1)))
            self.assertEqual(whole, machine * move(q, 1) * move(p, -1))

    def test_what_the_tracks_do(self):
        chance = random.Random(1)
        for machine in (carry(), ~carry(), move(3, -1), move(2, 1), flip()):
            q, p = movers(machine)
            whole = with_movers(machine=machine)
            for _ in range(20):
                row = some_row(chance, whole.signs)
                new = whole.step(row)
                self.assertEqual(split(new, q * p, machine.signs), machine.step(split(row, q * p, machine.signs)))
                self.assertEqual(split(new, p, q), split(row, p, q) >> 1)
                self.assertEqual(split(new, 1, p), split(row, 1, p) << 1)
                self.assertEqual(whole.unstep(new), row)


def led_by_the_left():
    """Three signs, of which 0 and 1 are exchanged behind a 2: its own back, with the window -1 to 0."""
    return Machine(Rule(3, -1, 0, (0, 1, 2, 0, 1, 2, 1, 0, 2)))


class Limits(Case):
    def test_too_many_signs(self):
        self.fails(TooMany, ("signs", 18), with_movers, two_thirds())
        self.fails(TooMany, ("signs", 18), with_movers, third())
        # 12 signs beside the first track, 36 beside both
        self.fails(TooMany, ("signs", 36), with_movers, ~two_thirds())
        self.fails(TooMany, ("signs", 25), with_movers, move(5, 1))
        self.fails(TooMany, ("signs", 25), with_movers, move(5, -1))
        self.assertEqual(with_movers(move(4, 1)).signs, 16)
        # signs go ahead of tables
        self.fails(TooMany, ("signs", 32), with_movers, move(2, 4))

    def test_too_long_tables(self):
        machine = led_by_the_left()
        self.assertEqual(machine, ~machine)
        # the rule and the back with the first track: the windows 1 to 4 with -1, and -3 to 0 with 1
        self.fails(TooMany, ("table", 8 ** 6), with_movers, flip() << 2)
        # the windows 0 to 1 with -1, and -2 to -1 with 1
        self.fails(TooMany, ("table", 9 ** 4), with_movers, machine << 1)
        # with the second track the other way round: -3 to 0 with 1, and 1 to 4 with -1
        self.fails(TooMany, ("table", 8 ** 5), with_movers, flip() >> 2)
        self.fails(TooMany, ("table", 9 ** 4), with_movers, machine >> 1)
        self.fails(TooMany, ("table", 9 ** 4), with_movers, machine.mirrored() >> 1)
        self.assertEqual(with_movers(machine), machine)

    def test_too_many_halves(self):
        self.fails(TooMany, ("halves", 4 ** 6), with_movers, flip() >> 1)
        self.fails(TooMany, ("halves", 4 ** 6), with_movers, flip() << 1)
        self.fails(TooMany, ("halves", 4 ** 6), with_movers, flip().mirrored() << 1)
        self.assertEqual(with_movers(flip()), flip())
        self.assertEqual(with_movers(move(2, 1)).reach, 1)

    def test_the_machine_stays_as_it_is(self):
        machine = carry()
        with_movers(machine)
        self.assertEqual((machine, movers(machine)), (carry(), (1, 2)))


if __name__ == "__main__":
    unittest.main()
