"""The examples at the end of the document."""

import unittest

from borderflow.errors import Loses, NoSpeed, UnlikeFlows
from borderflow.fringes import fringes, past_count
from borderflow.halves import halves
from borderflow.machines import Machine, move
from borderflow.meeting import meeting_rings
from borderflow.movers import movers
from borderflow.programs import Program
from borderflow.ratios import Ratio
from borderflow.rows import Row
from borderflow.rules import Rule, sum_rule
from borderflow.seams import Seam
from borderflow.speeds import speed
from tests.cases import CARRY, FLIP, Case


class Stage1(Case):
    def test_ratios(self):
        self.assertEqual(str(Ratio(2, 6) * Ratio(1, 2) ** -1), "2/3")

    def test_rows(self):
        row = Row((0, 0), (0, 1, 0), (0,), start=-1)
        self.assertEqual(repr(row >> 2), "Row((0,), (1,), (0,), start=2)")


class Stage2(Case):
    def test_meeting_rings(self):
        self.assertEqual(meeting_rings(sum_rule(2, -1, 1)), ((0, 0, 0), (0, 1, 1)))

    def test_loses(self):
        self.fails(Loses, ((0,), (1,)), Machine, sum_rule(2, 0, 1))

    def test_carry(self):
        carry = Machine(Rule(4, -1, 0, CARRY))
        told = [carry.reach, carry.left, carry.right, str(carry.flow), carry.back.low, carry.back.high]
        self.assertEqual(told, [1, 2, 8, "2", 0, 1])

    def test_halves(self):
        flip = Machine(Rule(2, -1, 2, FLIP))
        told = [(0, 0, 1, 0), (0, 1, 1, 0), (1, 0, 1, 0), (1, 1, 1, 0)]
        self.assertEqual(halves(flip, (1, 0, 0, 0), side="right"), told)

    def test_rings(self):
        flip = Machine(Rule(2, -1, 2, FLIP))
        self.assertEqual(flip.ring_step((0, 0, 1, 0, 1, 1, 0, 0, 1, 0)), (0, 1, 1, 0, 0, 1, 0, 1, 1, 0))


class Stage3(Case):
    def test_programs(self):
        program = Program((2, 2), ("move", 0, 1), ("add", 1, ((0, 0),), (0, 1)))
        rule = program.as_rule()
        self.assertEqual([str(program.flow), rule.low, rule.high, rule.table], ["2", -1, 0, CARRY])
        self.assertEqual((~program).text(), "program 2 2\nadd 1 0:0 = 0 1\nmove 0 -1\n")

    def test_speeds(self):
        self.assertEqual(speed(Ratio(2), 8, Ratio(1), 2), (2, 1))
        self.fails(NoSpeed, (3, 2), speed, Ratio(2), 6, Ratio(1), 2)

    def test_seams(self):
        self.fails(UnlikeFlows, (Ratio(2), Ratio(1)), Seam, move(2, 1), move(3, 0))


class Stage5(Case):
    def test_movers(self):
        self.assertEqual(movers(Machine(Rule(4, -1, 0, CARRY))), (1, 2))


class Stage6(Case):
    def test_fringes(self):
        carry = Machine(Rule(4, -1, 0, CARRY))
        left, right = fringes(carry, (0, 1, 2, 3))
        self.assertEqual([past_count(carry, (0, 1, 2, 3)), len(left), len(right)], [16, 2, 8])


if __name__ == "__main__":
    unittest.main()
