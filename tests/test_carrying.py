"""Carried exchanges: point [28] and the interface of borderflow/carrying.py."""

import random
import unittest

from borderflow.carrying import carry
from borderflow.errors import InvalidNumber, TooMany, UnlikeGrounds
from borderflow.exchanges import Exchange, swap_signs
from borderflow.grounds import Ground
from borderflow.machines import Machine, move, same
from borderflow.ratios import Ratio
from borderflow.rows import Row
from borderflow.rules import Rule
from tests import known
from tests.cases import Case, some_row

ANYTHING = (None, True, False, "", "1", (), [], (None,), (1,), Row((0,)), Ratio(1))
TWO = Ground(2)
NOTHING = Exchange(TWO, 0, 0, (0,))


def range_list(count):
    return list(range(count))


def some_exchange(chance, signs, most):
    ground = Ground(signs)
    start = chance.randint(-3, 3)
    end = start + chance.randint(0, most)
    table = list(range(ground.word_count(start, end)))
    chance.shuffle(table)
    return Exchange(ground, start, end, table)


def word_count(exchange, machine):
    """The words of point [28] for one tick."""
    (start, end), (low, high) = (exchange.start, exchange.end), (machine.rule.low, machine.rule.high)
    changed = exchange.core[0] - high, exchange.core[1] - low
    counting = min(start, changed[0] + low), max(end, changed[1] + high)
    first = min(changed[0], counting[0] + machine.back.low)
    return machine.signs ** (max(changed[1], counting[1] + machine.back.high) - first)


MACHINES = (
    (known.flip(), 2), (known.carry(), 1), (known.third(), 1), (move(2, 3), 4), (move(3, -1), 3), (same(4), 3),
    (Machine(Rule(4, 0, 0, (2, 0, 1, 3))), 3), (known.carry() << 1, 1), (~known.carry(), 1), (known.flip() >> 1, 2),
)


class Carried(Case):
    def test_done_behind_the_tick(self):
        chance = random.Random(1)
        done = 0
        for machine, most in MACHINES:
            for _ in range(12):
                exchange = some_exchange(chance, machine.signs, most)
                if not exchange.is_empty() and word_count(exchange, machine) > 4096:
                    self.fails(TooMany, ("words", word_count(exchange, machine)), carry, exchange, machine)
                    continue
                carried = carry(exchange, machine)
                self.assertIs(type(carried), Exchange)
                done += not exchange.is_empty()
                for _ in range(6):
                    row = some_row(chance, machine.signs)
                    self.assertEqual(carried.applied(machine.step(row)), machine.step(exchange.applied(row)))
        self.assertGreater(done, 50)

    def test_least_form(self):
        # a swap of the q of Carry stays, a swap of the p changes the p and the q of the right neighbour
        ground = Ground(4)
        swap = Exchange(ground, 0, 1, (1, 0, 3, 2))
        self.assertEqual(carry(swap, known.carry()), swap)
        carried = carry(Exchange(ground, 0, 1, (2, 3, 0, 1)), known.carry())
        self.assertEqual((carried.start, carried.end, carried.table), (1, 2, (3, 2, 1, 0)))
        self.assertEqual(carry(swap_signs(TWO, 0, 0, 1), move(2, 3)), swap_signs(TWO, 3, 0, 1))

    def test_a_waiting_guard(self):
        # Flip exchanges a sign between 0 and 10, so that the guards of a swap count behind the tick
        carried = carry(swap_signs(TWO, 0, 0, 1), known.flip())
        self.assertEqual(carried.core[0] >= -2 and carried.core[1] <= 2, True)
        self.assertFalse(carried.is_empty())
        self.assertEqual(carried + carried, NOTHING)

    def test_over_no_tick(self):
        exchange = Exchange(TWO, 0, 12, range_list(4096)[::-1])
        self.assertEqual(carry(exchange, known.flip(), ticks=0), exchange)
        self.assertEqual(carry(exchange=NOTHING, machine=known.flip(), ticks=0), NOTHING)

    def test_forth_and_back_again(self):
        chance = random.Random(2)
        for machine, most in MACHINES:
            for ticks in (-4, -2, -1, 1, 2, 3):
                exchange = some_exchange(chance, machine.signs, most - 1)
                try:
                    there = carry(exchange, machine, ticks=ticks)
                    back = carry(there, machine, ticks=-ticks)
                except TooMany:
                    continue
                self.assertEqual(back, exchange)

    def test_several_ticks(self):
        machine = known.carry()
        swap = swap_signs(Ground(4), 0, 0, 3)
        once = carry(swap, machine)
        twice = carry(once, machine)
        self.assertEqual(carry(swap, machine, ticks=2), twice)
        self.assertEqual(carry(swap, machine, ticks=-2), carry(carry(swap, ~machine), ~machine))
        self.assertEqual(carry(swap, machine, ticks=1), once)
        self.assertNotEqual(once, swap)
        row = Row((0, 2), (1, 3, 3, 0, 1), (2,), start=-2)
        self.assertEqual(twice.applied(machine.step(machine.step(row))), machine.step(machine.step(swap.applied(row))))

    def test_four_ticks_of_a_move(self):
        swap = swap_signs(TWO, 9998, 0, 1)
        self.assertEqual(carry(swap, move(2, 4), ticks=4).start, 10014)
        self.assertEqual(carry(carry(swap, move(2, 4), ticks=4), move(2, 4), ticks=-4), swap)

    def test_what_changes_nothing(self):
        for ticks in (-4, 0, 1, 4):
            self.assertEqual(carry(NOTHING, known.flip(), ticks=ticks), NOTHING)


class Errors(Case):
    def test_unlike_grounds(self):
        for ground in (Ground(3), Ground(2, (0, 3)), Ground(2, (9999, 1))):
            exchange = Exchange(ground, 0, 0, (0,))
            self.fails(UnlikeGrounds, (), carry, exchange, known.flip())
            self.fails(UnlikeGrounds, (), carry, exchange, known.flip(), ticks=None)
            self.fails(UnlikeGrounds, (), carry, exchange, known.flip(), ticks=0)

    def test_wrong_ticks(self):
        for value in (*ANYTHING, -5, 5):
            self.fails(InvalidNumber, (value,), carry, NOTHING, known.flip(), ticks=value)
            wide = Exchange(TWO, 0, 12, range_list(4096)[::-1])
            self.fails(InvalidNumber, (value,), carry, wide, known.flip(), ticks=value)

    def test_limit_of_words(self):
        # the words of Flip: the core [0, k) becomes [-2, k + 1), [-3, k + 3) counts, so [-4, k + 5) is looked at
        exchange = Exchange(TWO, 0, 3, (7, 6, 5, 4, 3, 2, 1, 0))
        self.assertEqual(exchange.core, (0, 3))
        self.assertIs(type(carry(exchange, known.flip())), Exchange)
        wider = Exchange(TWO, 0, 4, range_list(16)[::-1])
        self.fails(TooMany, ("words", 2 ** 13), carry, wider, known.flip())
        self.fails(TooMany, ("words", 2 ** 13), carry, wider, known.flip(), ticks=-1)
        self.fails(TooMany, ("words", 2 ** 13), carry, wider, known.flip(), ticks=4)

    def test_guards_count_beside_the_core(self):
        guarded = Exchange(TWO, 0, 6, [index ^ 1 if index >= 32 else index for index in range(64)])
        self.assertEqual((guarded.start, guarded.end, guarded.core), (0, 6, (5, 6)))
        # [3, 7) can change, [0, 9) counts, [-1, 11) is looked at: just the limit
        self.assertIs(type(carry(guarded, known.flip())), Exchange)
        wider = Exchange(TWO, -1, 6, [index ^ 1 if index >= 64 else index for index in range(128)])
        self.fails(TooMany, ("words", 2 ** 13), carry, wider, known.flip())

    def test_first_tick_that_needs_too_many_words(self):
        chance = random.Random(3)
        found = 0
        for machine, most in 3 * MACHINES:
            for ticks in (-4, -3, 3, 4):
                exchange = some_exchange(chance, machine.signs, most - 1)
                turned = machine if ticks > 0 else ~machine
                now = exchange
                for tick in range(abs(ticks)):
                    if not now.is_empty() and word_count(now, turned) > 4096:
                        found += tick > 0
                        self.fails(TooMany, ("words", word_count(now, turned)), carry, exchange, machine, ticks=ticks)
                        break
                    now = carry(now, turned)
                else:
                    self.assertEqual(carry(exchange, machine, ticks=ticks), now)
        self.assertGreater(found, 2)


if __name__ == "__main__":
    unittest.main()
