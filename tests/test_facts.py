"""Facts about flows (points [12] and [14]), and what point [15] tells of Flip, Carry and Third."""

import unittest

from borderflow.halves import counts, halves
from borderflow.machines import Machine, move, same
from borderflow.ratios import Ratio
from borderflow.rules import Rule
from tests.cases import CARRY, Case, words
from tests.known import carry, flip, third


def digits(text):
    return tuple(int(digit) for digit in text)


class Flows(Case):
    def machines(self):
        return [flip(), carry(), third(), ~carry(), carry().renamed((3, 1, 0, 2)), move(2, 1), move(6, -1), same(4)]

    def test_one_machine_behind_another(self):
        for one in self.machines():
            for other in self.machines():
                if one.signs == other.signs and one.signs ** (2 * (one.reach + other.reach)) <= 256:
                    self.assertEqual((one + other).flow, one.flow * other.flow)

    def test_machines_beside_one_another(self):
        for one in (move(2, 1), carry(), same(3), move(4, -1)):
            for other in (move(2, 1), move(3, -1), ~carry(), same(4)):
                if one.signs * other.signs <= 16:
                    self.assertEqual((one * other).flow, one.flow * other.flow)

    def test_backs_and_mirror_images(self):
        for machine in self.machines():
            self.assertEqual((~machine).flow, ~machine.flow)
            self.assertEqual(machine.mirrored().flow, ~machine.flow)

    def test_names_and_groups(self):
        for machine in self.machines():
            names = list(range(machine.signs))[::-1]
            self.assertEqual(machine.renamed(names).flow, machine.flow)
            if machine.signs <= 4:
                self.assertEqual(machine.grouped(2).flow, machine.flow)

    def test_moves(self):
        for signs in range(1, 17):
            self.assertEqual(move(signs, 1).flow, Ratio(signs))
            self.assertEqual(move(signs, -1).flow, Ratio(1, signs))
            self.assertEqual(same(signs).flow, Ratio(1))
        self.assertEqual((carry() >> 1).flow, Ratio(8))
        self.assertEqual((carry() << 1).flow, Ratio(1, 2))

    def test_primes_of_a_flow_divide_the_number_of_signs(self):
        for machine in self.machines():
            for prime in (2, 3, 5, 7):
                if machine.signs % prime:
                    self.assertEqual(machine.flow.power(prime), 0)

    def test_the_flow_is_the_same_for_each_reach(self):
        for machine in self.machines():
            reach = machine.reach
            while machine.signs ** (2 * reach) <= 256 and reach < 5:
                left, right = counts(machine, reach=reach)
                self.assertEqual(Ratio(right, machine.signs ** reach), machine.flow)
                self.assertEqual(left * right, machine.signs ** (2 * reach))
                reach += 1


class Flip(Case):
    def test_what_it_does(self):
        machine = flip()
        for ring in words(7, 2):
            told = tuple(
                sign ^ (ring[at - 1] == 0 and ring[(at + 1) % 7] == 1 and ring[(at + 2) % 7] == 0)
                for at, sign in enumerate(ring)
            )
            self.assertEqual(machine.ring_step(ring), told)
        self.assertEqual(machine.ring_step(digits("0010110010")), digits("0110010110"))

    def test_numbers(self):
        machine = flip()
        self.assertEqual((machine.rule.low, machine.rule.high), (-1, 2))
        self.assertEqual(machine.back, machine.rule)
        self.assertEqual(~machine, machine)
        self.assertEqual((machine.reach, machine.left, machine.right), (2, 4, 4))
        self.assertEqual(machine.flow, Ratio(1))

    def test_halves(self):
        told = [digits(word) for word in ("0000", "0100", "1000", "1100")]
        self.assertEqual(halves(flip(), (0, 0, 0, 0), side="right"), told)
        told = [digits(word) for word in ("0010", "0110", "1010", "1110")]
        self.assertEqual(halves(flip(), (1, 0, 0, 0), side="right"), told)
        told = [digits(word) for word in ("0000", "0001", "0011", "0110")]
        self.assertEqual(halves(flip(), (0, 0, 0, 0), side="left"), told)


class Carry(Case):
    def test_what_it_does(self):
        table = []
        for below in range(4):
            for here in range(4):
                p = below // 2
                table.append(2 * p + (here % 2 + p) % 2)
        self.assertEqual(tuple(table), CARRY)

    def test_numbers(self):
        machine = Machine(Rule(4, -1, 0, CARRY))
        self.assertEqual((machine.rule.low, machine.rule.high), (-1, 0))
        self.assertEqual((machine.back.low, machine.back.high), (0, 1))
        self.assertEqual((machine.reach, machine.right, machine.left), (1, 8, 2))
        self.assertEqual(machine.flow, Ratio(2))


class Third(Case):
    def test_numbers(self):
        machine = third()
        self.assertEqual((machine.rule.low, machine.rule.high), (0, 1))
        self.assertEqual((machine.reach, machine.right, machine.left), (1, 2, 18))
        self.assertEqual(machine.flow, Ratio(1, 3))
        self.assertEqual(str(machine.flow), "1/3")

    def test_what_it_does(self):
        self.assertEqual(third().ring_step((0, 4, 2)), (1, 5, 0))
        self.assertEqual(third(), same(2) * move(3, -1))


if __name__ == "__main__":
    unittest.main()
