"""Machines: points [9], [10] and the interface of borderflow/machines.py."""

import random
import unittest

from borderflow.errors import (
    InvalidNumber, InvalidTable, InvalidWindow, InvalidWord, Loses, NotAllowed, NotBack, TooMany, UnlikeSigns,
)
from borderflow.machines import Machine, known_machine, leads_back, machine_of, move, same, wall
from borderflow.ratios import Ratio
from borderflow.rows import Row
from borderflow.rules import Rule, move_rule, same_rule, sum_rule
from borderflow.shapes import grouped, mirrored, renamed
from tests.cases import CARRY, Case, some_row
from tests.known import carry, chain, flip, third

ANYTHING = (None, True, False, "1", (1,), [1], Row((0,)))


def lopsided():
    """A rule of eight signs with the window -1 to 0, whose back looks at -1 to 1."""
    rule = move_rule(2, -1) * same_rule(4) + Rule(8, 0, 0, (1, 6, 5, 0, 3, 2, 7, 4))
    return rule + move_rule(4, 1) * same_rule(2) + Rule(8, 0, 0, (6, 2, 0, 4, 5, 7, 3, 1))


class MachineCase(Case):
    def is_right(self, machine):
        """Checks all that the attributes of a machine tell."""
        self.assertIs(type(machine), Machine)
        chance = random.Random(9)
        self.assertTrue(leads_back(machine.rule, machine.back))
        self.assertTrue(leads_back(machine.back, machine.rule))
        for _ in range(10):
            row = some_row(chance, machine.signs)
            self.assertEqual(machine.unstep(machine.step(row)), row)
            self.assertEqual(machine.step(machine.unstep(row)), row)
            self.assertEqual(machine.step(row), machine.rule.step(row))
            ring = tuple(chance.randrange(machine.signs) for _ in range(chance.randint(1, 7)))
            self.assertEqual(machine.ring_unstep(machine.ring_step(ring)), ring)
            self.assertEqual(machine.ring_step(ring), machine.rule.ring_step(ring))
        windows = (-machine.rule.low, machine.rule.high, -machine.back.low, machine.back.high)
        self.assertEqual(machine.reach, max(0, *windows))
        self.assertEqual(machine.signs, machine.rule.signs)
        power = machine.signs ** machine.reach
        self.assertEqual(machine.left * machine.right, power * power)
        self.assertEqual(machine.flow, Ratio(machine.right, power))


class Machines(MachineCase):
    def test_attributes(self):
        machine = Machine(rule=Rule(4, -1, 0, CARRY))
        self.assertEqual(machine.rule, Rule(4, -1, 0, CARRY))
        self.assertIs(type(machine.back), Rule)
        self.assertEqual((machine.signs, machine.reach, machine.left, machine.right), (4, 1, 2, 8))
        self.assertEqual(machine.flow, Ratio(2))
        for each in (machine, flip(), third(), wall(), same(16), move(2, 4), move(16, -1)):
            self.is_right(each)

    def test_backs_with_another_window(self):
        moved = Machine(Rule(2, 1, 1, (1, 0)))
        self.assertEqual((moved.back.low, moved.back.high, moved.back.table), (-1, -1, (1, 0)))
        machine = Machine(Rule(4, -1, 0, CARRY) << 1)
        self.assertEqual((machine.rule.low, machine.rule.high, machine.back.low, machine.back.high), (0, 1, -1, 0))
        self.assertEqual((machine.reach, machine.left, machine.right, machine.flow), (1, 8, 2, Ratio(1, 2)))
        self.is_right(machine)

    def test_a_back_that_is_wider_than_the_rule(self):
        machine = Machine(lopsided())
        self.assertEqual((machine.rule.low, machine.rule.high), (-1, 0))
        self.assertEqual((machine.back.low, machine.back.high), (-1, 1))
        self.is_right(machine)
        other = Machine(machine.back)
        self.assertEqual(other.back, machine.rule)
        self.assertEqual(other.flow, ~machine.flow)

    def test_rules_of_two_signs_and_four_cells(self):
        # Flip, and what differs from it in names and direction, lose nothing
        for one in (flip(), flip().mirrored(), flip().renamed((1, 0)), flip().mirrored().renamed((1, 0))):
            for turn in (same_rule(2), Rule(2, 0, 0, (1, 0))):
                self.is_right(Machine(one.rule + turn))

    def test_loses(self):
        self.fails(Loses, ((0,), (1,)), Machine, sum_rule(2, 0, 1))
        self.fails(Loses, ((0, 0, 0), (0, 1, 1)), Machine, sum_rule(2, -1, 1))
        # a rule that loses something and is far away: pairs go ahead of the rings, these ahead of halves
        self.fails(Loses, ((0,), (1,)), Machine, sum_rule(2, 50, 51))
        self.fails(TooMany, ("pairs", 2 ** 14), Machine, sum_rule(2, 0, 7))

    def test_a_back_with_too_many_words(self):
        # the back of a chain of m bits looks at m cells
        self.assertEqual((Machine(chain(2)).back.low, Machine(chain(2)).back.high), (0, 1))
        with self.assertRaises(TooMany) as caught:
            Machine(chain(4))
        self.assertEqual(caught.exception.what, "table")
        self.assertGreater(caught.exception.count, 4096)

    def test_a_back_with_as_many_words_as_may_be(self):
        # three cells with 16 signs are not too many for the back, but they are too far for the halves
        rule = chain(3) * same_rule(2)
        self.fails(TooMany, ("halves", 16 ** 4), Machine, rule)
        self.fails(TooMany, ("halves", 16 ** 4), Machine, mirrored(rule))
        # moved by seven, the rule looks at -7 to -6, and the back at 7 to 9
        self.fails(TooMany, ("halves", 16 ** 18), Machine, rule >> 7)

    def test_reach_comes_from_each_end_of_each_window(self):
        far = back_of_chain(3)
        self.assertEqual((far.low, far.high, chain(3).low, chain(3).high), (0, 2, 0, 1))
        for rule in (far, mirrored(far), chain(3), mirrored(chain(3))):
            self.fails(TooMany, ("halves", 8 ** 4), Machine, rule)
        self.fails(TooMany, ("halves", 8 ** 4), known_machine, mirrored(far), mirrored(chain(3)))
        self.fails(TooMany, ("halves", 8 ** 4), known_machine, mirrored(chain(3)), mirrored(far))

    def test_limit_of_halves(self):
        self.fails(TooMany, ("halves", 8 ** 4), Machine, chain(3))
        self.assertEqual(Machine(move_rule(2, 4)).reach, 4)
        self.fails(TooMany, ("halves", 2 ** 10), Machine, move_rule(2, 5))
        self.fails(TooMany, ("halves", 2 ** 10), Machine, move_rule(2, -5))
        self.assertEqual(Machine(move_rule(16, 1)).right, 256)
        self.fails(TooMany, ("halves", 16 ** 4), Machine, move_rule(16, 2))
        self.assertEqual(Machine(move_rule(4, -2)).left, 256)
        self.fails(TooMany, ("halves", 3 ** 6), Machine, move_rule(3, 3))
        self.assertEqual(Machine(move_rule(1, 99)), wall())

    def test_rows_and_rings_that_are_not_allowed(self):
        machine = flip()
        row = Row((0,), (1, 2, 0, 3), start=-1)
        self.fails(NotAllowed, (2, 0), machine.step, row)
        self.fails(NotAllowed, (2, 0), machine.unstep, row)
        for wrong in ((), (2,), [0], "0", None, True, (True,)):
            self.fails(InvalidWord, (wrong,), machine.ring_step, wrong)
            self.fails(InvalidWord, (wrong,), machine.ring_unstep, wrong)
        self.assertEqual(machine.unstep(row=machine.step(row=Row((0, 1), (1,)))), Row((0, 1), (1,)))
        self.assertEqual(machine.ring_unstep(ring=machine.ring_step(ring=(0, 1))), (0, 1))

    def test_equal(self):
        self.assertTrue(carry() == Machine(carry().rule))
        self.assertFalse(carry() != Machine(carry().rule))
        self.assertTrue(carry() == known_machine(carry().rule, carry().back))
        for other in (flip(), ~carry(), carry() >> 1, carry().rule, None, "Machine(4 signs, flow 2)"):
            self.assertFalse(carry() == other)
            self.assertTrue(carry() != other)
        self.assertTrue(bool(wall()))

    def test_repr(self):
        self.assertEqual(repr(carry()), "Machine(4 signs, flow 2)")
        self.assertEqual(repr(third()), "Machine(6 signs, flow 1/3)")
        self.assertEqual(repr(wall()), "Machine(1 signs, flow 1)")


class Operators(MachineCase):
    def test_one_then_other(self):
        both = carry() + (~carry() >> 1)
        self.is_right(both)
        self.assertEqual(both, move(4, 1))
        self.assertEqual(both.back, move_rule(4, -1))
        other = carry() + carry().renamed((0, 2, 1, 3))
        self.is_right(other)
        self.assertEqual(other.rule, carry().rule + carry().renamed((0, 2, 1, 3)).rule)
        self.assertEqual(other.back, carry().renamed((0, 2, 1, 3)).back + carry().back)

    def test_one_beside_other(self):
        both = flip() * wall()
        self.is_right(both)
        self.assertEqual(both, flip())
        both = move(2, 1) * move(2, -1)
        self.is_right(both)
        self.assertEqual(both.rule, move_rule(2, 1) * move_rule(2, -1))
        self.assertEqual(both.flow, Ratio(1))

    def test_moved(self):
        right, left = carry() >> 1, carry() << 1
        self.is_right(right)
        self.is_right(left)
        self.assertEqual((right.rule, right.back), (carry().rule >> 1, carry().back << 1))
        self.assertEqual((left.rule, left.back), (carry().rule << 1, carry().back >> 1))
        self.assertEqual(carry() >> -1, left)

    def test_taken_back(self):
        machine = ~carry()
        self.is_right(machine)
        self.assertEqual((machine.rule, machine.back), (carry().back, carry().rule))
        self.assertEqual(machine.flow, Ratio(1, 2))
        self.assertEqual(~machine, carry())

    def test_raised(self):
        self.assertEqual(carry().raised(0), same(4))
        self.assertEqual(carry() ** 1, carry())
        self.assertEqual(carry().raised(k=-1), ~carry())
        self.assertEqual(carry() ** 2, carry() + carry())
        self.assertEqual(carry() ** -2, ~carry() + ~carry())
        for k in (-2, -1, 0, 1, 2):
            self.is_right(carry() ** k)
        for k in range(-12, 13):
            self.assertEqual(flip() ** k, flip() if k % 2 else same(2))
        self.assertEqual(move(2, 1) ** 4, move(2, 4))
        self.assertEqual(wall() ** 12, wall())

    def test_errors_of_sums(self):
        self.fails(UnlikeSigns, (2, 4), lambda: flip() + carry())
        self.fails(TooMany, ("halves", 4 ** 6), lambda: move(4, 2) + move(4, 1))
        self.fails(TooMany, ("halves", 2 ** 10), lambda: move(2, 4) + move(2, 1))
        self.assertEqual(move(2, 4) + move(2, -1), move(2, 3))

    def test_sums_whose_backs_are_too_wide(self):
        # the rule of eight signs looks at -1 to 0, its back at -1 to 1
        machine = Machine(lopsided())
        self.assertLessEqual((machine.rule + machine.rule).width, 3)
        self.fails(TooMany, ("table", 8 ** 5), lambda: machine.back + machine.back)
        self.fails(TooMany, ("table", 8 ** 5), lambda: machine + machine)
        self.fails(TooMany, ("table", 8 ** 5), lambda: ~machine + ~machine)
        self.fails(TooMany, ("table", 8 ** 5), lambda: machine ** 2)

    def test_errors_of_products(self):
        self.fails(TooMany, ("signs", 24), lambda: third() * carry())
        self.fails(TooMany, ("table", 16 ** 4), lambda: move(4, 1) * move(4, -2))
        self.fails(TooMany, ("halves", 4 ** 6), lambda: move(2, 3) * move(2, 3))

    def test_products_whose_backs_are_too_wide(self):
        machine = Machine(lopsided())
        both = machine * move(2, 1)
        self.assertEqual((both.rule, both.back), (machine.rule * move_rule(2, 1), machine.back * move_rule(2, -1)))
        self.assertEqual(both.flow, machine.flow * Ratio(2))
        # moved by one more, the rules look at -2 to 0, and the backs at -1 to 2
        self.assertEqual((machine.rule * move_rule(2, 2)).width, 3)
        self.fails(TooMany, ("table", 16 ** 4), lambda: machine * move(2, 2))

    def test_errors_of_moves(self):
        self.fails(TooMany, ("halves", 4 ** 6), lambda: carry() >> 2)
        self.fails(TooMany, ("halves", 4 ** 6), lambda: carry() << 3)
        self.is_right(carry() << 2)

    def test_errors_of_powers(self):
        for wrong in (-13, 13) + ANYTHING:
            self.fails(InvalidNumber, (wrong,), carry().raised, wrong)
            self.fails(InvalidNumber, (wrong,), lambda: carry() ** wrong)
        self.fails(TooMany, ("halves", 4 ** 6), lambda: carry() ** 3)
        self.fails(TooMany, ("halves", 4 ** 6), lambda: carry() ** -12)
        self.fails(TooMany, ("halves", 2 ** 10), lambda: move(2, 1) ** 12)

    def test_unchanged(self):
        one = carry()
        (one + one, ~one, one >> 1, one ** 2, one.mirrored(), one.renamed((3, 2, 1, 0)), one.step(Row((1,))))
        self.assertEqual((one.rule, one.reach, one.left, one.right), (Rule(4, -1, 0, CARRY), 1, 2, 8))
        self.is_right(one)


class Shapes(MachineCase):
    def test_mirrored(self):
        machine = carry().mirrored()
        self.is_right(machine)
        self.assertEqual((machine.rule, machine.back), (mirrored(carry().rule), mirrored(carry().back)))

    def test_renamed(self):
        machine = carry().renamed([2, 0, 3, 1])
        self.is_right(machine)
        self.assertEqual(machine.rule, renamed(carry().rule, (2, 0, 3, 1)))
        self.assertEqual(carry().renamed(names=(0, 1, 2, 3)), carry())
        self.fails(InvalidTable, (-1,), carry().renamed, (0, 1, 2))
        self.fails(InvalidTable, (2,), carry().renamed, (3, 1, 1, True))

    def test_grouped(self):
        machine = flip().grouped(2)
        self.is_right(machine)
        self.assertEqual(machine.rule, grouped(flip().rule, 2))
        self.is_right(carry().grouped(2))
        self.assertEqual(carry().grouped(m=1), carry())
        for wrong in (0, 5) + ANYTHING:
            self.fails(InvalidNumber, (wrong,), third().grouped, wrong)
        self.fails(TooMany, ("signs", 36), third().grouped, 2)
        self.fails(TooMany, ("table", 8 ** 5), known_machine(same_rule(2), sum_rule(2, -4, 4)).grouped, 3)
        self.fails(TooMany, ("halves", 8 ** 4), move(2, 4).grouped, 3)
        self.assertEqual(move(2, 4).grouped(4), move(16, 1))


class Made(MachineCase):
    def test_machine_of(self):
        machine = machine_of(carry().rule, carry().back)
        self.is_right(machine)
        self.assertEqual(machine, machine_of(rule=carry().rule, back=carry().back))
        self.fails(NotBack, (), machine_of, carry().rule, carry().rule)
        self.fails(NotBack, (), machine_of, move_rule(2, 5), move_rule(2, 5))
        self.fails(NotBack, (), machine_of, sum_rule(2, 0, 1), sum_rule(2, 0, 1))
        self.fails(UnlikeSigns, (4, 2), machine_of, carry().rule, sum_rule(2, 0, 11))
        self.fails(UnlikeSigns, (2, 4), machine_of, sum_rule(2, 0, 11), carry().rule)
        self.fails(TooMany, ("words", 2 ** 13), machine_of, sum_rule(2, 0, 11), sum_rule(2, 0, 1))
        self.fails(NotBack, (), machine_of, sum_rule(2, 0, 10), sum_rule(2, 0, 1))
        self.fails(TooMany, ("halves", 2 ** 10), machine_of, move_rule(2, 5), move_rule(2, -5))

    def test_leads_back(self):
        self.assertIs(leads_back(carry().rule, carry().back), True)
        self.assertIs(leads_back(rule=carry().rule, back=carry().rule), False)
        self.assertIs(leads_back(move_rule(2, 50), move_rule(2, -50)), True)
        self.assertIs(leads_back(move_rule(2, 50), move_rule(2, 50)), False)
        self.assertIs(leads_back(chain(3), back_of_chain(3)), True)
        self.assertIs(leads_back(same_rule(1), move_rule(1, 4)), True)
        self.assertIs(leads_back(sum_rule(2, 0, 10), sum_rule(2, 0, 1)), False)
        self.fails(UnlikeSigns, (4, 2), leads_back, carry().rule, sum_rule(2, 0, 11))
        self.fails(TooMany, ("words", 2 ** 13), leads_back, sum_rule(2, 0, 11), sum_rule(2, 0, 1))

    def test_known_machine(self):
        machine = known_machine(rule=carry().rule, back=carry().back)
        self.is_right(machine)
        self.fails(TooMany, ("halves", 2 ** 10), known_machine, move_rule(2, 5), move_rule(2, -5))
        self.fails(TooMany, ("halves", 8 ** 4), known_machine, chain(3), back_of_chain(3))

    def test_wall(self):
        self.assertEqual((wall().signs, wall().reach, wall().left, wall().right), (1, 0, 1, 1))
        self.assertEqual(wall().flow, Ratio(1))
        self.assertEqual(wall(), same(1))

    def test_same(self):
        for signs in range(1, 17):
            self.assertEqual(same(signs).rule, same_rule(signs))
            self.assertEqual(same(signs).back, same_rule(signs))
            self.assertEqual((same(signs).reach, same(signs).flow), (0, Ratio(1)))
        for wrong in (0, -1) + ANYTHING:
            self.fails(InvalidNumber, (wrong,), same, wrong)
        self.fails(TooMany, ("signs", 17), same, 17)

    def test_move(self):
        for signs, d in ((2, 4), (2, -4), (4, 2), (16, -1), (3, 0), (1, 99)):
            machine = move(signs=signs, d=d)
            self.is_right(machine)
            self.assertEqual(machine.rule, move_rule(signs, d))
        self.fails(InvalidNumber, (True,), move, True, None)
        self.fails(TooMany, ("signs", 17), move, 17, None)
        self.fails(InvalidWindow, (None, None), move, 2, None)
        self.fails(InvalidWindow, (True, True), move, 2, True)
        self.fails(InvalidWindow, (-100, -100), move, 2, 100)
        self.fails(TooMany, ("halves", 2 ** 10), move, 2, 5)
        self.fails(TooMany, ("halves", 2 ** 198), move, 2, -99)


def back_of_chain(tracks):
    """The back of the rule that cases.chain makes: each bit is the sum of all bits behind it, one cell for each."""
    signs = 2 ** tracks
    table = []
    for index in range(signs ** tracks):
        word = [index // signs ** (tracks - 1 - at) % signs for at in range(tracks)]
        old = 0
        for at, sign in enumerate(word):
            old ^= sign << at & signs - 1
        table.append(old)
    return Rule(signs, 0, tracks - 1, table)


if __name__ == "__main__":
    unittest.main()
