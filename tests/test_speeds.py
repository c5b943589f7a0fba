"""Speeds: points [14], [22], [23], [24] and the interface of borderflow/speeds.py."""

import random
import unittest

from borderflow.errors import InvalidFrame, InvalidNumber, NoSpeed, TooMany, UnlikeSpeeds
from borderflow.machines import Machine, move, same, wall
from borderflow.ratios import PRIMES, Ratio
from borderflow.rows import Row
from borderflow.speeds import common_frame, framed, framed_flow, speed
from tests.cases import Case
from tests.known import carry, flip, third

ANYTHING = (None, True, False, "", "2", (), [], (None,), (1, 0), Row((0,)), Ratio(2))
FRAMES = (
    *ANYTHING[:8], (1,), (1, 0, 0), [1, 0], (0, 0), (13, 0), (-1, 0), (1, 13), (1, -13), (True, 0), (1, False),
    ("1", 0), (1, "0"), (None, None), Ratio(2), 1, ((1, 0),),
)


class Speeds(Case):
    def test_equal_numbers_of_signs(self):
        self.assertEqual(speed(Ratio(2), 4, Ratio(2), 4), (1, 0))
        self.assertEqual(speed(Ratio(1), 1, Ratio(1), 1), (1, 0))
        self.fails(NoSpeed, (2, 2), speed, Ratio(2), 4, Ratio(1), 4)
        self.fails(NoSpeed, (3, 3), speed, Ratio(25), 30, Ratio(9), 30)
        self.fails(NoSpeed, (5, 5), speed, Ratio(1, 5), 30, Ratio(49), 30)
        self.fails(NoSpeed, (61, 61), speed, Ratio(61), 61, Ratio(1), 61)

    def test_equal_flows(self):
        self.assertEqual(speed(Ratio(1), 2, Ratio(1), 3), (1, 0))
        self.assertEqual(speed(Ratio(5), 64, Ratio(5), 1), (1, 0))
        self.assertEqual(speed(Ratio(2, 3), 6, Ratio(2, 3), 36), (1, 0))

    def test_examples_of_the_document(self):
        self.assertEqual(speed(carry().flow, 4, Ratio(1), 2), (1, 1))
        self.assertEqual(speed(Ratio(2), 8, Ratio(1), 2), (2, 1))
        self.fails(NoSpeed, (3, 2), speed, Ratio(2), 6, Ratio(1), 2)

    def test_two_powers_of_one_number(self):
        self.assertEqual(speed(Ratio(4), 4, Ratio(2), 2), (1, 1))
        self.assertEqual(speed(Ratio(2), 2, Ratio(4), 4), (1, 1))
        self.assertEqual(speed(Ratio(1, 2), 4, Ratio(1), 2), (1, -1))
        self.assertEqual(speed(Ratio(1), 2, Ratio(1, 2), 4), (1, -1))
        self.assertEqual(speed(Ratio(8), 64, Ratio(1), 4), (4, 3))
        self.assertEqual(speed(Ratio(1), 4, Ratio(4, 1), 64), (2, 1))
        self.assertEqual(speed(Ratio(36), 36, Ratio(6, 1), 6), (1, 1))
        self.assertEqual(speed(Ratio(1), 1, Ratio(6 ** 5, 1), 36), (2, 5))
        self.assertEqual(speed(Ratio(1), 1, Ratio(1, 2 ** 7), 64), (6, -7))
        self.assertEqual(speed(Ratio(2, 3), 2, Ratio(1), 3), (1, 1))
        self.assertEqual(speed(Ratio(9, 4), 8, Ratio(1), 18), (1, -1))

    def test_primes_that_bar_a_speed(self):
        # the first prime is the least one of 12 / 2, the quotient is 1, and 3 has the power 0
        self.fails(NoSpeed, (2, 3), speed, Ratio(2), 12, Ratio(1), 2)
        self.fails(NoSpeed, (2, 3), speed, Ratio(1), 2, Ratio(2), 12)
        self.fails(NoSpeed, (2, 3), speed, Ratio(3), 12, Ratio(1), 2)
        self.fails(NoSpeed, (2, 5), speed, Ratio(5), 4, Ratio(1), 2)
        self.fails(NoSpeed, (3, 2), speed, Ratio(6), 6, Ratio(1), 2)
        self.fails(NoSpeed, (2, 61), speed, Ratio(2, 61), 4, Ratio(1), 2)
        self.fails(NoSpeed, (61, 59), speed, Ratio(61 * 59), 61, Ratio(1), 1)
        self.fails(NoSpeed, (2, 3), speed, Ratio(4, 3), 2, Ratio(1), 3)
        self.fails(NoSpeed, (2, 3), speed, Ratio(36 * 5), 18, Ratio(1), 1)

    def test_flows_are_equal_in_the_frame(self):
        chance = random.Random(4)
        found = 0
        for _ in range(400):
            signs = [chance.choice((1, 2, 3, 4, 6, 8, 9, 12, 16, 36, 64)) for _ in range(2)]
            flows = [Ratio(2) ** chance.randint(-3, 3) * Ratio(3) ** chance.randint(-2, 2) for _ in range(2)]
            ends = [
                (s, d) for s in range(1, 7) for d in range(-30, 31)
                if flows[0] ** s * Ratio(signs[0]) ** -d == flows[1] ** s * Ratio(signs[1]) ** -d
            ]
            if signs[0] == signs[1]:
                ends = [(1, 0)] if flows[0] == flows[1] else []
            if ends:
                found += 1
                self.assertEqual(speed(flows[0], signs[0], flows[1], signs[1]), ends[0])
                self.assertEqual(speed(flows[1], signs[1], flows[0], signs[0]), ends[0])
            else:
                self.bars(flows[0] * ~flows[1], Ratio(*signs), speed, flows[0], signs[0], flows[1], signs[1])
        self.assertGreater(found, 40)

    def bars(self, flows, signs, call, *given):
        """Checks the two primes by the words of point [24] alone."""
        if signs == Ratio(1):
            least = [prime for prime in PRIMES if flows.power(prime)][0]
            self.fails(NoSpeed, (least, least), call, *given)
            return
        first = [prime for prime in PRIMES if signs.power(prime)][0]
        second = [
            prime for prime in PRIMES
            if flows.power(prime) * signs.power(first) != signs.power(prime) * flows.power(first)
        ][0]
        self.fails(NoSpeed, (first, second), call, *given)

    def test_wrong_numbers_of_signs(self):
        for value in (*ANYTHING, 0, -1, 65):
            self.fails(InvalidNumber, (value,), speed, Ratio(2), value, Ratio(1), 0)
            self.fails(InvalidNumber, (value,), speed, Ratio(2), 4, Ratio(1), value)
        self.assertEqual(speed(one_flow=Ratio(2), one_signs=64, other_flow=Ratio(1), other_signs=1), (6, 1))


class Common(Case):
    def test_one_part(self):
        self.assertEqual(common_frame([(Ratio(5), 5)]), (1, 0))
        self.assertEqual(common_frame(parts=((Ratio(5), 5),)), (1, 0))

    def test_parts_that_can_be_left_out(self):
        part = (Ratio(2), 4)
        self.assertEqual(common_frame([part, part, (Ratio(4, 2), 4)]), (1, 0))
        self.assertEqual(common_frame([part, (Ratio(1), 2), part]), (1, 1))
        self.assertEqual(common_frame([part, part, (Ratio(1), 2), part, (Ratio(1), 2), part]), (1, 1))

    def test_the_one_speed(self):
        self.assertEqual(common_frame([(Ratio(1), 2), (Ratio(2), 8), (Ratio(2), 8)]), (2, 1))
        self.assertEqual(common_frame([(Ratio(1), 2), (Ratio(2), 4), (Ratio(8), 16), (Ratio(1, 2), 1)]), (1, 1))
        self.assertEqual(common_frame([(Ratio(1), 2), (Ratio(1), 3), (Ratio(1), 64), (Ratio(1), 1)]), (1, 0))
        # equal numbers of signs with unlike flows are no speed, but both against the first part
        self.fails(UnlikeSpeeds, ((1, 1), (1, 2)), common_frame, [(Ratio(1), 2), (Ratio(2), 4), (Ratio(4), 4)])

    def test_unlike_speeds(self):
        first, one, other = (Ratio(1), 2), (Ratio(2), 4), (Ratio(2), 8)
        self.fails(UnlikeSpeeds, ((1, 1), (2, 1)), common_frame, [first, one, other])
        self.fails(UnlikeSpeeds, ((2, 1), (1, 1)), common_frame, [first, first, other, first, one])
        self.fails(UnlikeSpeeds, ((1, 1), (1, 0)), common_frame, [first, one, one, (Ratio(1), 3), other])
        self.fails(UnlikeSpeeds, ((1, 0), (1, 1)), common_frame, [first, (Ratio(1), 3), one])

    def test_no_speed_goes_ahead_of_unlike_speeds(self):
        first, one, other = (Ratio(1), 2), (Ratio(2), 4), (Ratio(2), 8)
        self.fails(NoSpeed, (3, 2), common_frame, [first, one, other, (Ratio(2), 6), (Ratio(3), 2)])
        self.fails(NoSpeed, (3, 3), common_frame, [first, one, other, (Ratio(3), 2), (Ratio(2), 6)])
        self.fails(NoSpeed, (2, 2), common_frame, [(Ratio(1), 2), (Ratio(2), 2)])
        # a part with the flow of the first one but not its number of signs, and the other way round, is not left out
        self.fails(NoSpeed, (2, 2), common_frame, [first, first, (Ratio(2), 2)])


class Frames(Case):
    def test_machines(self):
        self.assertEqual(framed(carry(), (1, 1)), carry() << 1)
        self.assertEqual(framed(machine=flip(), frame=(2, -1)), (flip() ** 2) << -1)
        self.assertEqual(framed(flip(), (1, 0)), flip())
        machine = framed(carry(), (2, 1))
        self.assertIs(type(machine), Machine)
        row = Row((0,), (2, 1, 3), (0, 1))
        self.assertEqual(machine.step(row), carry().step(carry().step(row)) << 1)
        self.assertEqual(framed(wall(), (12, 12)), wall())

    def test_flows(self):
        self.assertEqual(framed_flow(Ratio(2), 4, (1, 1)), Ratio(1, 2))
        self.assertEqual(framed_flow(flow=Ratio(2, 3), signs=6, frame=(2, -1)), Ratio(8, 3))
        self.assertEqual(framed_flow(Ratio(7), 64, (12, 12)), Ratio(7 ** 12, 64 ** 12))
        for machine in (carry(), flip(), move(2, -1)):
            for frame in ((1, 0), (1, 1), (1, -1), (2, 0), (2, 1)):
                flow = framed_flow(machine.flow, machine.signs, frame)
                self.assertEqual(framed(machine, frame).flow, flow)
        self.assertEqual(framed(third(), (1, -1)).flow, framed_flow(Ratio(1, 3), 6, (1, -1)))

    def test_flows_and_speeds(self):
        for one, other in ((carry(), same(2)), (third(), same(6)), (move(4, 1), move(2, 1)), (flip(), same(3))):
            if one.signs == other.signs:
                self.fails(NoSpeed, (3, 3), speed, one.flow, one.signs, other.flow, other.signs)
                continue
            frame = speed(one.flow, one.signs, other.flow, other.signs)
            self.assertEqual(framed(one, frame).flow, framed(other, frame).flow)

    def test_wrong_frames(self):
        for value in FRAMES:
            self.fails(InvalidFrame, (), framed, carry(), value)
            self.fails(InvalidFrame, (), framed_flow, Ratio(2), 4, value)
        for frame in ((12, -12), (12, 12)):
            self.assertEqual(framed(same(1), frame), wall())
            self.assertEqual(framed_flow(Ratio(1), 1, frame), Ratio(1))

    def test_wrong_numbers_of_signs(self):
        for value in (*ANYTHING, 0, 65):
            self.fails(InvalidNumber, (value,), framed_flow, Ratio(2), value, None)
        self.assertEqual(framed_flow(Ratio(2), 64, (1, 0)), Ratio(2))

    def test_machines_that_become_too_wide(self):
        self.fails(TooMany, ("halves", 4 ** 6), framed, carry(), (3, 0))
        self.fails(TooMany, ("halves", 4 ** 6), framed, carry(), (3, 1))
        self.fails(TooMany, ("halves", 2 ** 10), framed, same(2), (1, 5))
        self.fails(TooMany, ("halves", 16 ** 24), framed, carry().grouped(2), (2, 12))


if __name__ == "__main__":
    unittest.main()
