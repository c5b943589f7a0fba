"""Walks: point [35] and the interface of borderflow/walks.py."""

import random
import unittest

from borderflow.errors import InvalidNumber, NotAllowed, UnlikeGrounds
from borderflow.exchanges import Exchange, swap_signs
from borderflow.floors import Closed, Floor, moving_floor
from borderflow.grounds import Ground
from borderflow.machines import move, same
from borderflow.ratios import Ratio
from borderflow.rows import Row
from borderflow.walks import END, FIRST, Walk
from tests.cases import Case
from tests.known import carry, flip

NO_NUMBERS = (None, True, False, "1", "", (), [], (1,), [1], Ratio(1), Row((0,)))


def carry_floor():
    """Carry beside two signs that stay: a floor that moves a cell to the right at each tick."""
    return moving_floor([carry(), same(2)])


def still(floor=None):
    return Walk(Floor([flip()]) if floor is None else floor, Row((0,), (0, 0, 1, 1, 1, 1, 0, 1), (0, 1)))


def rows_of(floor, row, count):
    """The rows of so many steps from a row on, the first one included."""
    rows = [row]
    for _ in range(abs(count)):
        rows.append(floor.step(rows[-1]) if count > 0 else floor.unstep(rows[-1]))
    return rows


class Steps(Case):
    def test_a_new_walk(self):
        floor, row = Floor([flip()]), Row((0,), (1,), (0,))
        for walk in (Walk(floor, row), Walk(floor=floor, row=row), Walk(row=row, floor=floor)):
            self.assertIs(walk.floor, floor)
            self.assertEqual((walk.row, walk.ticks, walk.place), (row, 0, 0))
            self.assertEqual(repr(walk), "Walk(0 ticks)")
        self.assertEqual((FIRST, END), (-5, 5))

    def test_there_and_back(self):
        for floor in (Floor([flip()]), Floor([flip(), flip()], matchings=[list(range(16))[::-1]])):
            walk = still(floor)
            rows = rows_of(floor, walk.row, 12)
            for row in rows[1:]:
                self.assertIsNone(walk.tick())
                self.assertEqual(walk.row, row)
            self.assertEqual((walk.ticks, repr(walk)), (12, "Walk(12 ticks)"))
            walk.tick(-5)
            self.assertEqual((walk.row, walk.ticks), (rows[7], 7))
            walk.tick(count=-12)
            self.assertEqual((walk.row, walk.ticks), (rows_of(floor, rows[0], -5)[-1], -5))
            self.assertEqual(repr(walk), "Walk(-5 ticks)")
            walk.tick(0)
            self.assertEqual(walk.ticks, -5)
            walk.tick(12)
            self.assertEqual((walk.row, walk.ticks), (rows[7], 7))

    def test_wrong_counts(self):
        walk = still()
        walk.tick(3)
        row = walk.row
        for wrong in (*NO_NUMBERS, 13, -13, 100):
            self.fails(InvalidNumber, (wrong,), walk.tick, wrong)
            self.assertEqual((walk.row, walk.ticks), (row, 3))

    def test_return_to(self):
        walk = still()
        first = walk.row
        self.assertIsNone(walk.return_to(24))
        self.assertEqual((walk.row, walk.ticks), (rows_of(walk.floor, first, 24)[-1], 24))
        walk.return_to(ticks=-24)
        self.assertEqual((walk.row, walk.ticks), (rows_of(walk.floor, first, -24)[-1], -24))
        walk.return_to(-24)
        self.assertEqual(walk.ticks, -24)
        walk.tick(-12)
        self.assertEqual(walk.ticks, -36)
        walk.return_to(0)
        self.assertEqual((walk.row, walk.ticks), (first, 0))
        for wrong in (*NO_NUMBERS, 25, -25):
            self.fails(InvalidNumber, (wrong,), walk.return_to, wrong)
        self.assertEqual((walk.row, walk.ticks), (first, 0))

    def test_rows_that_do_not_fit(self):
        floor = Floor([carry(), move(2, 1)])
        self.fails(NotAllowed, (3, 0), Walk, floor, Row((3,)))
        self.fails(NotAllowed, (4, -1), Walk, floor, Row((4,), (), (1,)))
        self.fails(NotAllowed, (1, -1), Walk, Closed([flip()], [8]), Row((1,)))
        self.assertEqual(Walk(floor, Row((3,), (), (1,))).row, Row((3,), (), (1,)))


class Worlds(Case):
    def test_at_rest(self):
        walk = still()
        self.assertEqual(walk.shown(), walk.row.word(-5, 5))
        walk.tick(7)
        self.assertEqual((walk.place, walk.shown()), (0, walk.row.word(-5, 5)))
        self.assertEqual(walk.shown(2), walk.row.word(2, 5))
        self.assertEqual(walk.shown(end=-2), walk.row.word(-5, -2))
        self.assertEqual(walk.shown(first=-40, end=40), walk.row.word(-40, 40))
        self.assertEqual((walk.shown(3, 3), walk.shown(3, 2), walk.shown(6)), ((), (), ()))

    def test_frames_that_move(self):
        for floor in (
            carry_floor(), moving_floor([same(2), carry()]), Floor([carry()], frame=(1, -1)),
            Floor([same(2)], frame=(3, 4)), Floor([carry(), move(2, 1)], frame=(1, 0)),
        ):
            walk = Walk(floor, Row((0,), (1, 1, 0, 1), (1, 0)))
            for count in (1, 2, -5, 12, -12, -1):
                walk.tick(count)
                place = walk.ticks * floor.frame[1]
                self.assertEqual(walk.place, place)
                self.assertEqual(walk.shown(), walk.row.word(-5 - place, 5 - place))
                self.assertEqual(walk.shown(-20, 30), walk.row.word(-20 - place, 30 - place))

    def test_the_world_of_one_machine_is_what_the_machine_makes(self):
        # seen from the world, a frame makes no difference
        chance = random.Random(1)
        for machine, frame in ((carry(), (1, 1)), (carry(), (2, 1)), (flip(), (1, 1)), (move(2, 1), (1, -2))):
            walk = Walk(Floor([machine], frame=frame), Row((1,), (0, 1, 1, 0), (0, 1)))
            row = walk.row
            for _ in range(5):
                count = chance.randint(0, 4)
                walk.tick(count)
                for _ in range(count * frame[0]):
                    row = machine.step(row)
                self.assertEqual(walk.shown(-30, 30), row.word(-30, 30))
            walk.tick(-6)
            for _ in range(6 * frame[0]):
                row = machine.unstep(row)
            self.assertEqual(walk.shown(), row.word(-5, 5))

    def test_two_signs_that_stay_in_the_world(self):
        walk = Walk(carry_floor(), Row((0,), (1, 0, 1), (0,)))
        far = walk.shown(8, 20)
        walk.tick(5)
        self.assertEqual((walk.place, walk.shown(8, 20)), (5, far))
        walk.return_to(-3)
        self.assertEqual((walk.place, walk.shown(8, 20)), (-3, far))


class Changes(Case):
    def test_changes_and_steps_in_either_order(self):
        floor = Floor([flip()])
        unlike = 0
        for cell in range(8):
            swap = swap_signs(Ground(2), cell, 0, 1)
            one, other = still(floor), still(floor)
            first = one.row
            self.assertIsNone(one.change(swap))
            one.tick()
            self.assertEqual(one.row, floor.step(swap.applied(first)))
            other.tick()
            other.change(exchange=swap)
            self.assertEqual(other.row, swap.applied(floor.step(first)))
            self.assertEqual((one.ticks, other.ticks), (1, 1))
            unlike += one.row != other.row
        self.assertGreater(unlike, 2)

    def test_on_the_cells_of_the_row(self):
        walk = Walk(carry_floor(), Row((0,)))
        walk.tick(3)
        walk.change(swap_signs(walk.floor.ground, 2, 0, 1))
        self.assertEqual(walk.row[2], 1)
        self.assertEqual(walk.shown(0, 10), (0, 0, 0, 0, 0, 1, 0, 0, 0, 0))
        walk.return_to(0)
        self.assertEqual(walk.shown(0, 10), (0, 0, 0, 0, 0, 1, 0, 0, 0, 0))

    def test_changes_that_do_not_fit(self):
        walk = still()
        row = walk.row
        for ground in (Ground(3), Ground(2, (0, 3)), Ground(2, (40, 1))):
            self.fails(UnlikeGrounds, (), walk.change, swap_signs(ground, 0, 0, 1))
            self.fails(UnlikeGrounds, (), walk.change, Exchange(ground, 0, 0, (0,)))
        self.assertEqual((walk.row, walk.ticks), (row, 0))
        walk.change(Exchange(Ground(2), 0, 0, (0,)))
        self.assertEqual(walk.row, row)

    def test_twins_that_are_led_apart(self):
        walk = still()
        walk.tick(2)
        twin = walk.twin()
        self.assertIs(type(twin), Walk)
        self.assertEqual((twin.floor, twin.row, twin.ticks), (walk.floor, walk.row, 2))
        row = walk.row
        twin.tick(-1)
        twin.change(swap_signs(Ground(2), 0, 0, 1))
        self.assertEqual((walk.row, walk.ticks, twin.ticks), (row, 2, 1))
        walk.tick(3)
        self.assertEqual((twin.ticks, repr(twin), repr(walk)), (1, "Walk(1 ticks)", "Walk(5 ticks)"))

    def test_always_true(self):
        self.assertTrue(bool(still()))
        self.assertFalse(still() == still())


if __name__ == "__main__":
    unittest.main()
