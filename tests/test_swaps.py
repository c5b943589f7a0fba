"""Swaps: point [37] and the interface of borderflow/swaps.py."""

import itertools
import random
import unittest

from borderflow.errors import CellsLeft, InvalidNumber, InvalidWord
from borderflow.machines import move, same, wall
from borderflow.ratios import Ratio
from borderflow.rows import Row
from borderflow.swaps import Swaps, swapped
from tests.cases import Case, words
from tests.known import carry, flip, third

NO_NUMBERS = (None, True, False, "1", "", (), [], (1,), [1], Ratio(1))
NO_RINGS = (None, True, 0, "01", (), [], [0, 1], (0, 2), (0, -1), (0, True), (0, None), ((0,),), Row((0,)), Ratio(1))


def some_ring(chance, machine, size):
    return tuple(chance.randrange(machine.signs) for _ in range(size))


def plain_swap(machine, x, y, i):
    """The rings behind a swap by the words of point [37]."""
    new = list(machine.ring_step(y))
    other = list(x)
    new[i], other[i] = other[i], new[i]
    return tuple(other), machine.ring_unstep(tuple(new))


class Making(Case):
    def test_a_new_one(self):
        x, y = (0, 1, 1), (1, 0, 0)
        for swaps in (Swaps(flip(), x, y), Swaps(machine=flip(), partner=x, ring=y)):
            self.assertEqual((swaps.machine, swaps.partner, swaps.main, swaps.ticks), (flip(), x, y, 0))
            self.assertEqual((swaps.done(), list(swaps.cells_left()), len(swaps)), ([], [0, 1, 2], 3))
            self.assertEqual(repr(swaps), "Swaps(0 of 3 cells)")
            self.assertTrue(bool(swaps))
        self.assertFalse(Swaps(flip(), x, y) == Swaps(flip(), x, y))

    def test_wrong_rings(self):
        for wrong in NO_RINGS:
            self.fails(InvalidWord, (wrong,), Swaps, flip(), wrong, (0, 1))
            self.fails(InvalidWord, (wrong,), Swaps, flip(), (0, 1), wrong)
            self.fails(InvalidWord, (wrong,), Swaps, flip(), wrong, (2,))
            self.fails(InvalidWord, (wrong,), swapped, flip(), wrong, (0, 1), 0)
            self.fails(InvalidWord, (wrong,), swapped, flip(), (0, 1), wrong, 9)
        self.fails(InvalidWord, ((0, 1, 1),), Swaps, flip(), (0, 1), (0, 1, 1))
        self.fails(InvalidWord, ((1,),), Swaps, flip(), (0, 1), (1,))
        self.fails(InvalidWord, ((0, 2),), Swaps, flip(), (0, 2), (0, 1, 1))
        self.fails(InvalidWord, ((0, 1, 1),), swapped, flip(), (0, 1), (0, 1, 1), None)


class Doing(Case):
    def test_one_swap(self):
        chance = random.Random(1)
        for machine in (flip(), carry(), third(), move(3, 1), same(2)):
            for size in (1, 2, 3, 7):
                x, y = some_ring(chance, machine, size), some_ring(chance, machine, size)
                for cell in range(size):
                    swaps = Swaps(machine, x, y)
                    self.assertIsNone(swaps.swap(cell))
                    told = plain_swap(machine, x, y, cell)
                    self.assertEqual((swaps.partner, swaps.main), told)
                    self.assertEqual((swaps.done(), swaps.ticks), ([cell], 0))
                    self.assertEqual(swapped(machine, x, y, cell), told)
                    self.assertEqual(swapped(cell=cell, ring=y, partner=x, machine=machine), told)
                    self.assertIs(type(swapped(machine, x, y, cell)), tuple)
                    swaps.swap(cell=cell)
                    self.assertEqual((swaps.partner, swaps.main, swaps.done()), (x, y, []))

    def test_any_order(self):
        chance = random.Random(2)
        x, y = some_ring(chance, carry(), 4), some_ring(chance, carry(), 4)
        ends = set()
        for cells in itertools.permutations(range(4)):
            swaps = Swaps(carry(), x, y)
            for many, cell in enumerate(cells):
                swaps.swap(cell)
                self.assertEqual(swaps.done(), sorted(cells[:many + 1]))
            ends.add((swaps.partner, swaps.main))
        self.assertEqual(ends, {(carry().ring_step(y), carry().ring_unstep(x))})

    def test_several_swaps(self):
        chance = random.Random(3)
        for _ in range(40):
            size = chance.randint(1, 6)
            x, y = some_ring(chance, flip(), size), some_ring(chance, flip(), size)
            cells = [chance.randrange(size) for _ in range(chance.randint(0, 9))]
            one, other = Swaps(flip(), x, y), Swaps(flip(), x, y)
            self.assertIsNone(one.swap_all(*cells))
            told = (x, y)
            for cell in cells:
                other.swap(cell)
                told = plain_swap(flip(), *told, cell)
            self.assertEqual((one.partner, one.main), told)
            self.assertEqual((other.partner, other.main), told)
            odd = [cell for cell in range(size) if cells.count(cell) % 2]
            left = [cell for cell in range(size) if cells.count(cell) % 2 == 0]
            for swaps in (one, other):
                self.assertEqual((swaps.done(), list(swaps.cells_left())), (odd, left))
                self.assertEqual(repr(swaps), f"Swaps({len(odd)} of {size} cells)")

    def test_half_done_states_depend_on_the_set_of_cells(self):
        x, y = (0, 1, 1, 0, 1), (1, 1, 0, 0, 1)
        one, other = Swaps(flip(), x, y), Swaps(flip(), x, y)
        one.swap_all(0, 3, 4)
        other.swap_all(4, 1, 3, 3, 3, 0, 1)
        self.assertEqual((one.partner, one.main, one.done()), (other.partner, other.main, other.done()))

    def test_back_out(self):
        x, y = (0, 1, 1, 0, 1), (1, 1, 0, 0, 1)
        swaps = Swaps(flip(), x, y)
        swaps.swap_all(0, 3, 4, 0)
        self.assertIsNone(swaps.back_out())
        self.assertEqual((swaps.partner, swaps.main, swaps.done(), swaps.ticks), (x, y, [], 0))
        swaps.back_out()
        self.assertEqual((swaps.partner, swaps.main), (x, y))
        swaps.swap_all(0, 1, 2, 3, 4)
        swaps.back_out()
        self.assertEqual((swaps.partner, swaps.main), (x, y))
        # what was finished is not taken back
        swaps.swap_all(4, 3, 2, 1, 0)
        swaps.finish()
        state = (swaps.partner, swaps.main)
        swaps.swap(2)
        swaps.back_out()
        self.assertEqual((swaps.partner, swaps.main, swaps.ticks), (*state, 1))


class Wrong(Case):
    def test_wrong_cells(self):
        swaps = Swaps(flip(), (0, 1, 1), (1, 0, 0))
        swaps.swap(1)
        state = (swaps.partner, swaps.main, [1])
        for wrong in (*NO_NUMBERS, 3, -1, 99):
            self.fails(InvalidNumber, (wrong,), swaps.swap, wrong)
            self.fails(InvalidNumber, (wrong,), swaps.swap_all, 0, 2, wrong, 7)
            self.fails(InvalidNumber, (wrong,), swaps.swap_all, wrong)
            self.fails(InvalidNumber, (wrong,), swapped, flip(), (0, 1, 1), (1, 0, 0), wrong)
            self.assertEqual((swaps.partner, swaps.main, swaps.done()), state)
        swaps.swap_all()
        self.assertEqual((swaps.partner, swaps.main, swaps.done()), state)

    def test_ticks_that_can_not_be_finished(self):
        swaps = Swaps(flip(), (0, 1, 1), (1, 0, 0))
        self.fails(CellsLeft, (3,), swaps.finish)
        swaps.swap_all(0, 2)
        state = (swaps.partner, swaps.main)
        self.fails(CellsLeft, (1,), swaps.finish)
        self.assertEqual((swaps.partner, swaps.main, swaps.done(), swaps.ticks), (*state, [0, 2], 0))
        swaps.swap_all(1, 0)
        self.fails(CellsLeft, (1,), swaps.finish)


class Finishing(Case):
    def test_a_tick_is_finished(self):
        for machine in (flip(), carry(), third(), same(3)):
            for x in words(2, machine.signs)[:6]:
                for y in words(2, machine.signs)[-6:]:
                    swaps = Swaps(machine, x, y)
                    swaps.swap_all(1, 0)
                    self.assertEqual((swaps.partner, swaps.main), (machine.ring_step(y), machine.ring_unstep(x)))
                    self.assertIsNone(swaps.finish())
                    self.assertEqual((swaps.partner, swaps.main), (machine.ring_unstep(x), machine.ring_step(y)))
                    self.assertEqual((swaps.ticks, swaps.done(), list(swaps.cells_left())), (1, [], [0, 1]))

    def test_several_ticks(self):
        chance = random.Random(4)
        x, y = some_ring(chance, carry(), 5), some_ring(chance, carry(), 5)
        swaps = Swaps(carry(), x, y)
        for tick in range(1, 6):
            cells = list(range(5))
            chance.shuffle(cells)
            for cell in cells:
                swaps.swap(cell)
            swaps.finish()
            x, y = carry().ring_unstep(x), carry().ring_step(y)
            self.assertEqual((swaps.partner, swaps.main, swaps.ticks), (x, y, tick))
        self.assertEqual((len(swaps), repr(swaps)), (5, "Swaps(0 of 5 cells)"))

    def test_one_cell_and_one_sign(self):
        swaps = Swaps(wall(), (0,), (0,))
        swaps.swap(0)
        swaps.finish()
        self.assertEqual((swaps.partner, swaps.main, swaps.ticks, len(swaps)), ((0,), (0,), 1, 1))

    def test_a_long_ring(self):
        chance = random.Random(5)
        x, y = some_ring(chance, flip(), 3000), some_ring(chance, flip(), 3000)
        swaps = Swaps(flip(), x, y)
        swaps.swap_all(*range(3000))
        swaps.finish()
        self.assertEqual((swaps.partner, swaps.main), (flip().ring_unstep(x), flip().ring_step(y)))

    def test_twins_that_are_led_apart(self):
        swaps = Swaps(flip(), (0, 1, 1), (1, 0, 0))
        swaps.swap_all(0, 1, 2)
        swaps.finish()
        swaps.swap(1)
        twin = swaps.twin()
        self.assertIs(type(twin), Swaps)
        state = (swaps.partner, swaps.main, swaps.ticks, swaps.done())
        self.assertEqual((twin.machine, (twin.partner, twin.main, twin.ticks, twin.done())), (flip(), state))
        twin.swap_all(0, 2)
        twin.finish()
        self.assertEqual((swaps.partner, swaps.main, swaps.ticks, swaps.done()), state)
        swaps.back_out()
        self.assertEqual((twin.ticks, twin.done(), swaps.ticks), (2, [], 1))

    def test_lists_are_new(self):
        swaps = Swaps(flip(), (0, 1, 1), (1, 0, 0))
        swaps.swap(1)
        swaps.done().append(0)
        self.assertEqual(swaps.done(), [1])


if __name__ == "__main__":
    unittest.main()
