"""Middles: point [31] and the interface of borderflow/middles.py."""

import itertools
import random
import unittest

from borderflow.errors import InvalidNumber, InvalidPart, InvalidWord, NotAllowed, TooNarrow
from borderflow.exchanges import swap_signs
from borderflow.floors import Closed, Floor
from borderflow.halves import halves
from borderflow.machines import Machine, move, same, wall
from borderflow.middles import Middle, crossing_log, zone_in, zone_out
from borderflow.ratios import Ratio
from borderflow.rows import Row
from borderflow.rules import Rule
from tests.cases import Case, words
from tests.known import carry, flip, third

ANYTHING = (None, True, False, "", "1", [], (None,), (True,), Row((0,)), Ratio(1))
TURN = Machine(Rule(3, 0, 0, (1, 2, 0)))
MACHINES = (flip(), carry(), third(), move(2, 1), move(2, -2), TURN, same(2), wall(), ~carry(), flip().mirrored())


def some_word(chance, machine, length):
    return tuple(chance.randrange(machine.signs) for _ in range(length))


class Zones(Case):
    def test_by_the_halves(self):
        chance = random.Random(1)
        for machine in MACHINES:
            reach = machine.reach
            for more in (0, 1, 4):
                inner = some_word(chance, machine, 2 * reach + more)
                right, left = chance.randrange(machine.right), chance.randrange(machine.left)
                word = zone_out(machine, right, inner, left)
                self.assertEqual(len(word), 4 * reach + more)
                ahead = halves(machine, inner[:2 * reach], side="right")[right]
                behind = halves(machine, inner[len(inner) - 2 * reach:], side="left")[left]
                between = machine.step(Row((0,), inner, (0,), start=reach)).word(2 * reach, 2 * reach + more)
                self.assertEqual(word, ahead + between + behind)
                self.assertEqual(zone_in(machine, word), (right, inner, left))

    def test_one_to_one(self):
        for machine, cells in ((flip(), 9), (move(2, 1), 5), (move(2, -2), 8), (TURN, 3), (carry(), 4), (wall(), 2)):
            triples = [zone_in(machine, word) for word in words(cells, machine.signs)]
            inners = words(cells - 2 * machine.reach, machine.signs)
            told = itertools.product(range(machine.right), inners, range(machine.left))
            self.assertEqual(sorted(triples), list(told))
            for word, (right, inner, left) in zip(words(cells, machine.signs), triples):
                self.assertEqual(zone_out(machine, right, inner, left), word)

    def test_without_a_reach_inner_may_be_empty(self):
        self.assertEqual(zone_out(TURN, 0, (), 0), ())
        self.assertEqual(zone_in(TURN, ()), (0, (), 0))
        self.assertEqual(zone_out(TURN, 0, (0, 1, 2), 0), (1, 2, 0))
        self.assertEqual(zone_in(machine=TURN, word=(1, 2, 0)), (0, (0, 1, 2), 0))

    def test_moves(self):
        # the right number tells the cells from the left, which the left halves of a move don't
        self.assertEqual(zone_out(machine=move(2, 1), right_number=2, inner=(1, 0, 1), left_number=0), (1, 0, 1, 0, 1))
        self.assertEqual(zone_out(move(2, 1), 1, (1, 0, 1), 0), (0, 1, 1, 0, 1))

    def test_errors(self):
        for value in (*ANYTHING, -1, 8):
            self.fails(InvalidNumber, (value,), zone_out, carry(), value, None, None)
        for value in (*ANYTHING, (), (0,), (0, 4), (0, -1), (0, True), [0, 0], 0, "00"):
            self.fails(InvalidWord, (value,), zone_out, carry(), 7, value, None)
        for value in (*ANYTHING, -1, 2):
            self.fails(InvalidNumber, (value,), zone_out, carry(), 0, (0, 3), value)
        for value in (*ANYTHING, (), (0, 0, 0), (0, 0, 0, 4), (0, 0, 0, True), [0, 0, 0, 0], 0, "0000"):
            self.fails(InvalidWord, (value,), zone_in, carry(), value)
        self.fails(InvalidNumber, (1,), zone_out, wall(), 1, (), 0)
        self.fails(InvalidNumber, (1,), zone_out, wall(), 0, (0,), 1)
        self.assertEqual(len(zone_out(carry(), 7, (0, 3), 1)), 4)
        self.assertEqual(len(zone_in(carry(), (0, 1, 2, 3))[1]), 2)


class Middles(Case):
    def test_parts(self):
        middle = Middle(flip(), (0, 1, 1, 0, 0, 1, 0, 1, 1))
        self.assertEqual((middle.machine, middle.present, middle.ticks), (flip(), (0, 1, 1, 0, 0, 1, 0, 1, 1), 0))
        self.assertEqual((middle.left_end(), middle.inner(), middle.right_end()), ((0, 1), (1, 0, 0, 1, 0), (1, 1)))
        self.assertEqual(len(middle), 9)
        self.assertIs(bool(middle), True)
        self.assertEqual(repr(middle), "Middle(9 cells, 0 ticks)")
        middle = Middle(machine=TURN, word=(2,))
        self.assertEqual((middle.left_end(), middle.inner(), middle.right_end()), ((), (2,), ()))
        self.assertEqual(repr(middle), "Middle(1 cells, 0 ticks)")

    def test_steps(self):
        chance = random.Random(2)
        for machine in MACHINES:
            word = some_word(chance, machine, max(4 * machine.reach, 1) + chance.randint(0, 3))
            middle = Middle(machine, word)
            right, left = chance.randrange(machine.right), chance.randrange(machine.left)
            told = zone_out(machine, right, middle.inner(), left)
            ends = middle.left_end(), middle.right_end()
            self.assertIsNone(middle.tick(right, left))
            self.assertEqual((middle.present, middle.ticks), (told, 1))
            self.assertEqual(middle.untick(*ends), (right, left))
            self.assertEqual((middle.present, middle.ticks), (word, 0))
            self.assertEqual(middle.untick(left_end=ends[0], right_end=ends[1]), zone_in(machine, word)[::2])
            self.assertEqual((middle.left_end(), middle.right_end(), middle.ticks), (*ends, -1))
            self.assertEqual(repr(middle), f"Middle({len(word)} cells, -1 ticks)")

    def test_driven(self):
        chance = random.Random(3)
        for machine in MACHINES:
            word = some_word(chance, machine, 4 * machine.reach + 3)
            pairs = [(chance.randrange(machine.right), chance.randrange(machine.left)) for _ in range(5)]
            middle, other = Middle(machine, word), Middle(machine, word)
            shown = []
            for right, left in pairs:
                shown.append((other.left_end(), other.right_end()))
                other.tick(right_number=right, left_number=left)
            self.assertEqual(middle.drive(pairs=tuple(pairs)), shown)
            self.assertEqual((middle.present, middle.ticks), (other.present, 5))
            for pair, ends in zip(pairs[::-1], shown[::-1]):
                self.assertEqual(middle.untick(*ends), pair)
            self.assertEqual((middle.present, middle.ticks), (word, 0))
            self.assertEqual(middle.drive([]), [])

    def test_twins(self):
        middle = Middle(carry(), (0, 1, 2, 3))
        middle.tick(3, 1)
        twin = middle.twin()
        self.assertEqual((twin.present, twin.ticks, twin.machine), (middle.present, 1, carry()))
        told = middle.present
        middle.tick(0, 0)
        self.assertEqual((twin.present, twin.ticks, middle.ticks), (told, 1, 2))
        twin.untick((0,), (0,))
        self.assertEqual((twin.ticks, middle.ticks), (0, 2))

    def test_least_lengths(self):
        self.fails(TooNarrow, (0, 8), Middle, flip(), (0,) * 7)
        self.fails(TooNarrow, (0, 4), Middle, carry(), ())
        self.fails(TooNarrow, (0, 1), Middle, wall(), ())
        self.assertEqual((len(Middle(flip(), (0,) * 8)), len(Middle(wall(), (0,)))), (8, 1))
        self.fails(InvalidWord, ((4,),), Middle, carry(), (4,))
        for value in (*ANYTHING, [0] * 4, (0, 0, 0, 4), (0, 0, 0, True), "0000", 0):
            self.fails(InvalidWord, (value,), Middle, carry(), value)

    def test_errors_change_nothing(self):
        middle = Middle(carry(), (0, 1, 2, 3))
        for value in (*ANYTHING, -1, 8):
            self.fails(InvalidNumber, (value,), middle.tick, value, None)
        for value in (*ANYTHING, -1, 2):
            self.fails(InvalidNumber, (value,), middle.tick, 7, value)
        for value in (*ANYTHING, (), (4,), (0, 0), (-1,), 0):
            self.fails(InvalidWord, (value,), middle.untick, value, None)
            self.fails(InvalidWord, (value,), middle.untick, (3,), value)
        for value in (*ANYTHING, (8, 0), (0, 2), (-1, 0), (0, -1), (0,), (0, 0, 0), [0, 0], (0, True), (False, 0), 0):
            self.fails(InvalidPart, (0,), middle.drive, [value])
            self.fails(InvalidPart, (2,), middle.drive, [(0, 0), (7, 1), value, (9, 9)])
        self.assertEqual((middle.present, middle.ticks), ((0, 1, 2, 3), 0))
        with self.assertRaises(AttributeError):
            middle.present = (0, 0, 0, 0)


class Floors(Case):
    def test_all_that_passes_between_a_middle_and_the_floor(self):
        chance = random.Random(4)
        for machines, widths in (
            ([carry(), move(2, 1), carry()], [5]), ([wall(), flip(), same(3), flip()], [9, 2]),
            ([third(), move(3, -1), third()], [6]), ([wall(), flip(), wall()], [8]),
        ):
            floor = Floor(machines, widths=widths)
            row = Row((0,), tuple(chance.randrange(floor.ground[cell]) for cell in range(-9, 20)), (0,), start=-9)
            log = list(crossing_log(floor, row, 6))
            self.assertTrue(all(type(crossings) is list for crossings in log))
            for at, (first, end, machine) in list(enumerate(floor.zones()))[1:-1]:
                middle = Middle(machine, row.word(first, end))
                now = row
                for crossings in log:
                    self.assertEqual(middle.present, now.word(first, end))
                    middle.tick(crossings[at - 1][1], crossings[at][0])
                    now = floor.step(now)
                self.assertEqual((middle.present, middle.ticks), (now.word(first, end), 6))


class Logs(Case):
    def test_crossings(self):
        floor = Floor([carry(), move(2, 1), carry()], widths=[4])
        row = Row((0, 3), (1, 2, 0, 1, 1, 0, 3, 2), (1,), start=-2)
        now = row
        told = []
        for _ in range(24):
            told.append([floor.crossing(now, 0), floor.crossing(now, 1)])
            now = floor.step(now)
        self.assertEqual(list(crossing_log(floor, row, 24)), told)
        self.assertEqual(list(crossing_log(floor=floor, row=row, count=3)), told[:3])
        self.assertEqual(list(crossing_log(floor, row, 0)), [])
        self.assertEqual(list(crossing_log(Floor([flip()]), Row((1,)), 3)), [[], [], []])

    def test_edits_come_behind_the_crossings(self):
        floor = Closed([same(2)], [1])
        floor = floor.with_edit(swap_signs(floor.ground, 0, 0, 1))
        self.assertEqual(list(crossing_log(floor, Row((0,)), 2)), [[(0, 0), (0, 0)]] * 2)
        floor = Closed([flip()], [8])
        edited = floor.with_edit(swap_signs(floor.ground, 0, 0, 1))
        one, other = list(crossing_log(floor, Row((0,)), 2)), list(crossing_log(edited, Row((0,)), 2))
        self.assertEqual(one[0], other[0])
        self.assertNotEqual(one[1], other[1])

    def test_errors_come_with_the_first_item(self):
        floor = Floor([carry(), move(2, 1)])
        for value in (*ANYTHING, -1, 25):
            log = crossing_log(floor, Row((2,)), value)
            self.fails(InvalidNumber, (value,), next, log)
        for count in (0, 1, 24):
            log = crossing_log(floor, Row((2,)), count)
            self.fails(NotAllowed, (2, 0), next, log)


if __name__ == "__main__":
    unittest.main()
