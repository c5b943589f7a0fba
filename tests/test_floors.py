"""Floors: points [18] to [22], [29], [30], [31] and the class Floor of borderflow/floors.py."""

import random
import unittest

from borderflow.errors import (
    InvalidFrame, InvalidMatching, InvalidNumber, InvalidPart, InvalidZone, NoSpeed, NotAllowed, TooMany, TooNarrow,
    UnlikeFlows, UnlikeGrounds, UnlikeSpeeds,
)
from borderflow.exchanges import Exchange, swap_signs
from borderflow.floors import Closed, Floor, moving_floor
from borderflow.grounds import Ground
from borderflow.halves import halves
from borderflow.machines import Machine, move, same, wall
from borderflow.ratios import Ratio
from borderflow.rows import Row
from borderflow.rules import Rule
from borderflow.seams import Seam
from borderflow.speeds import framed
from tests.cases import Case
from tests.known import carry, flip, third

ANYTHING = (None, True, False, 0, 1, "", "1", (), [], (None,), Row((0,)), Ratio(1))
NO_MACHINES = (None, True, 0, "machine", Row((0,)), Ratio(1), (), [flip()])


def beside(machine, signs):
    """A machine beside signs that stay."""
    return machine * same(signs)


def turned(chance, machine):
    """A machine of the same flow with other signs."""
    names = list(range(machine.signs))
    chance.shuffle(names)
    return machine.renamed(names)


def drawn(chance, machines):
    """A matching for each seam, some of them None."""
    matchings = []
    for one, other in zip(machines, machines[1:]):
        matching = list(range(one.left * other.right))
        chance.shuffle(matching)
        matchings.append(chance.choice((None, matching, tuple(matching))))
    return matchings


def some_edit(chance, ground):
    start = chance.randint(-4, 9)
    end = start + chance.randint(1, 3)
    table = list(range(ground.word_count(start, end)))
    chance.shuffle(table)
    return Exchange(ground, start, end, table)


def some_floors():
    """Floors of one zone up to six, at rest and moving, with machines of unlike reaches and several edits."""
    chance = random.Random(1)
    lists = [
        [flip()], [carry()], [carry(), move(2, 1)], [move(2, 1), carry()], [flip(), wall()], [wall(), flip()],
        [flip(), same(3), flip()], [wall(), same(2), wall()], [third(), third()], [third(), move(3, -1), third()],
        [carry(), move(2, 1), turned(chance, carry()), move(2, 1)], [~carry(), move(2, -1), ~carry()],
        [wall(), flip(), same(4), turned(chance, flip()), same(2), wall()], [move(2, 2), move(4, 1), move(2, 2)],
        [Machine(Rule(4, 0, 0, (2, 0, 1, 3))), wall(), flip(), same(2), flip(), same(16)],
    ]
    floors = []
    for machines in lists:
        for more in (0, 1, 5):
            least = [max(1, 4 * machine.reach) for machine in machines[1:-1]]
            floor = Floor(
                machines, widths=[width + more for width in least],
                matchings=drawn(chance, machines) if more else None,
            )
            for _ in range(more % 4):
                floor = floor.with_edit(some_edit(chance, floor.ground))
            floors.append(floor)
    floors.append(Floor([carry(), same(2)], frame=(1, 1)))
    floors.append(Floor([move(2, 0), beside(move(2, 1), 2), same(2)], widths=[9], frame=(1, 1)))
    floors.append(Floor([carry(), wall(), carry()], widths=[3], frame=(2, 1)))
    return floors


FLOORS = some_floors()


def fitting_row(chance, floor):
    """A row that fits the ground of a floor."""
    first, end = -14, 40
    word = tuple(chance.randrange(floor.ground[cell]) for cell in range(first, end))
    sides = [
        tuple(chance.randrange(floor.ground[cell]) for _ in range(chance.randint(1, 3))) for cell in (first, end)
    ]
    row = Row(sides[0], word, sides[1], start=first)
    start = chance.randint(-10, 15)
    if chance.random() < 0.5 and max(sides[0]) < min(floor.ground[cell] for cell in range(first, end)):
        return Row(sides[0], (), sides[1], start=max(start, floor.borders()[-1] if floor.borders() else start))
    return row


def plain_sign(floor, row, cell):
    """The new sign of a cell behind a step without edits, by the words of points [19], [20] and [30] alone."""
    for x, seam in zip(floor.borders(), floor.seams()):
        one, other = seam.one, seam.other
        a, b = one.reach, other.reach
        if x - 2 * a <= cell < x + 2 * b:
            left, right = seam.numbers(row.word(x - a, x + b))
            if cell < x:
                return halves(one, row.word(x - 3 * a, x - a), side="left")[left][cell - x + 2 * a]
            return halves(other, row.word(x + b, x + 3 * b), side="right")[right][cell - x]
    rule = floor.machine_at(cell).rule
    return rule.on_word(row.word(cell + rule.low, cell + rule.high + 1))[0]


class Making(Case):
    def test_attributes(self):
        floor = Floor([carry(), move(2, 1), carry()], widths=[4])
        self.assertEqual(floor.ground, Ground(4, (0, 2), (4, 4)))
        self.assertEqual((floor.flow, floor.frame, floor.reach, len(floor)), (Ratio(2), (1, 0), 4, 3))
        self.assertEqual(floor.machines(), [carry(), move(2, 1), carry()])
        self.assertEqual((floor.borders(), floor.widths(), floor.edits()), ([0, 4], [4], []))
        self.assertEqual(floor.seams(), [Seam(carry(), move(2, 1)), Seam(move(2, 1), carry())])
        zones = list(floor.zones())
        self.assertEqual(zones, [(None, 0, carry()), (0, 4, move(2, 1)), (4, None, carry())])
        self.assertTrue(all(type(zone) is tuple for zone in zones))
        self.assertEqual(repr(floor), "Floor(3 zones, flow 2)")

    def test_one_zone(self):
        floor = Floor((flip(),))
        self.assertEqual((floor.borders(), floor.seams(), floor.widths(), len(floor)), ([], [], [], 1))
        self.assertEqual(list(floor.zones()), [(None, None, flip())])
        self.assertEqual((floor.ground, floor.reach, floor.flow), (Ground(2), 2, Ratio(1)))
        self.assertEqual(repr(floor), "Floor(1 zones, flow 1)")
        self.assertEqual(Floor([flip()], widths=(), matchings=[]), floor)

    def test_grounds_of_equal_signs_have_no_border(self):
        self.assertEqual(Floor([flip(), same(2)]).ground, Ground(2))
        floor = Floor([flip(), same(2), same(3), wall()], widths=[3, 1])
        self.assertEqual(floor.ground, Ground(2, (3, 3), (4, 1)))
        self.assertEqual(floor.borders(), [0, 3, 4])

    def test_machines_of_cells(self):
        floor = Floor([carry(), move(2, 1), carry().renamed((1, 0, 2, 3))], widths=[4])
        told = [floor.machine_at(cell) for cell in (-99, -1, 0, 3, 4, 9999)]
        self.assertEqual(told[:4], [carry(), carry(), move(2, 1), move(2, 1)])
        self.assertEqual(told[4:], [carry().renamed((1, 0, 2, 3))] * 2)
        self.assertEqual(Floor([flip()]).machine_at(cell=5), flip())

    def test_frames(self):
        floor = Floor([carry(), same(2)], frame=(1, 1))
        self.assertEqual(floor.machines(), [framed(carry(), (1, 1)), move(2, -1)])
        self.assertEqual((floor.frame, floor.flow, floor.reach), ((1, 1), Ratio(1, 2), 4))
        self.assertEqual(list(floor.zones()), [(None, 0, carry() << 1), (0, None, move(2, -1))])
        self.assertEqual(floor.machine_at(-1), carry() << 1)
        self.assertEqual(Floor([flip()], frame=(2, 0)).machines(), [flip() + flip()])
        self.assertEqual(Floor([wall()], frame=(12, -12)).frame, (12, -12))

    def test_limits(self):
        self.assertEqual(len(Floor([flip()] * 6, widths=[8] * 4)), 6)
        self.fails(TooMany, ("zones", 7), Floor, [flip()] * 7, widths=[8] * 5)
        self.assertEqual(Floor([same(2)] * 6, widths=[400] * 4).borders(), [0, 400, 800, 1200, 1600])

    def test_lists_are_copied_and_new(self):
        machines, widths, matching = [flip(), same(2), flip()], [3], list(range(4))
        matchings = [None, matching]
        edits = [swap_signs(Ground(2), 0, 0, 1)]
        floor = Floor(machines, widths=widths, matchings=matchings, edits=edits)
        again = Floor([flip(), same(2), flip()], widths=[3], edits=[swap_signs(Ground(2), 0, 0, 1)])
        machines[0] = same(2)
        widths[0] = 4
        matching[0] = 9
        matchings[0] = matching
        edits.clear()
        self.assertEqual(floor, again)
        for told in (floor.machines, floor.borders, floor.seams, floor.widths, floor.edits):
            told().clear()
            self.assertNotEqual(told(), [])
        self.assertEqual(floor, again)


class Reaches(Case):
    def test_reaches(self):
        for machines, widths, reach in (
            ([wall()], (), 0), ([flip()], (), 2), ([carry()], (), 1), ([wall(), same(3)], (), 0),
            ([flip(), same(2)], (), 7), ([same(2), flip()], (), 7), ([flip(), flip()], (), 9), ([carry()] * 2, (), 4),
            ([move(2, 4), move(16, 1)], (), 16), ([move(4, 1), move(2, 2), move(4, 1)], [8], 8),
            ([wall(), flip(), wall()], [8], 7), ([same(2), same(3), wall()], [1], 0),
            ([third(), move(3, -1), move(3, -1), third()], [4, 4], 4), ([flip(), same(3), flip()], [1], 7),
            ([same(3), flip(), flip(), same(3)], [8, 8], 9), ([same(3), same(2), flip(), flip()], [1, 8], 9),
        ):
            self.assertEqual(Floor(machines, widths=widths).reach, reach)

    def test_edits_add_their_lengths_less_1(self):
        ground = Ground(2)
        edits = [
            swap_signs(ground, 5, 0, 1), Exchange(ground, 0, 3, (0, 1, 2, 3, 5, 4, 7, 6)), Exchange(ground, 0, 0, (0,)),
            Exchange(ground, 1, 3, (1, 2, 3, 0)), swap_signs(ground, 5, 1, 1),
        ]
        self.assertEqual(Floor([flip()], edits=edits).reach, 2 + 2 + 1)
        self.assertEqual(Floor([same(2)], edits=edits[:1]).reach, 0)
        self.assertEqual(Floor([flip(), same(2)], edits=edits).reach, 7 + 2 + 1)
        floor = Floor([flip(), same(2)])
        for edit in edits:
            floor = floor.with_edit(edit)
        self.assertEqual(floor.reach, 10)

    def test_cells_depend_on_cells_that_are_so_far_away(self):
        chance = random.Random(2)
        for floor in FLOORS:
            row = fitting_row(chance, floor)
            steps = ((floor.step, floor.step(row)), (floor.unstep, floor.unstep(row)))
            for cell in range(-9, 10):
                signs = floor.ground[cell]
                other = row.changed(cell, ((row[cell] + 1) % signs,))
                for step, there in steps:
                    new = step(other)
                    far = [k for k in range(-70, 70) if abs(k - cell) > floor.reach and new[k] != there[k]]
                    self.assertEqual(far, [])


class Steps(Case):
    def test_as_the_words_say(self):
        chance = random.Random(3)
        for floor in FLOORS:
            row = fitting_row(chance, floor)
            new = floor.step(row)
            for edit in floor.edits()[::-1]:
                new = (~edit).applied(new)
            for cell in range(-20, 60):
                self.assertEqual(new[cell], plain_sign(floor, row, cell), (floor, row, cell))

    def test_back_again(self):
        chance = random.Random(4)
        for floor in FLOORS:
            for _ in range(4):
                row = fitting_row(chance, floor)
                self.assertIsNone(floor.ground.strange(floor.step(row)))
                self.assertEqual(floor.unstep(floor.step(row)), row)
                self.assertEqual(floor.step(floor.unstep(row)), row)

    def test_one_zone_does_what_its_machine_does(self):
        chance = random.Random(5)
        for machine in (flip(), carry(), third(), wall(), move(3, -2)):
            floor = Floor([machine])
            for _ in range(5):
                row = fitting_row(chance, floor)
                self.assertEqual(floor.step(row=row), machine.step(row))
                self.assertEqual(floor.unstep(row=row), machine.unstep(row))

    def test_far_away(self):
        floor = Floor([carry(), move(2, 1)])
        row = Row((0, 2, 1), (1,), (0, 1), start=3000)
        self.fails(NotAllowed, (2, 1), floor.step, row)
        row = Row((1, 0), (1,), (0, 1, 1), start=300)
        self.assertEqual(floor.step(row).word(200, 400), move(2, 1).step(row).word(200, 400))
        self.assertEqual(floor.step(row).word(-400, -2), carry().step(row).word(-400, -2))
        row = Row((3, 1, 0), (1,), (0, 1, 1), start=-300)
        self.assertEqual(floor.step(row).word(2, 300), row.word(1, 299))
        self.assertEqual(floor.step(row).word(-400, -2), carry().step(row).word(-400, -2))

    def test_matchings_make_a_difference(self):
        row = Row((0,), (1,), (0,), start=1)
        plain = Floor([carry(), move(2, 1)])
        other = Floor([carry(), move(2, 1)], matchings=[(1, 0, 2, 3, 4, 5, 6, 7)])
        self.assertEqual(plain.crossing(row, 0), (0, 0))
        self.assertEqual(other.crossing(row, 0), (0, 1))
        self.assertNotEqual(plain.step(row), other.step(row))

    def test_edits_in_unlike_orders(self):
        ground = Ground(2)
        one, other = Exchange(ground, 0, 2, (1, 2, 0, 3)), swap_signs(ground, 0, 0, 1)
        row = Row((0,), (1, 1, 0, 1), (0,))
        there = Floor([flip(), same(2)]).step(row)
        first = Floor([flip(), same(2)], edits=[one, other])
        second = Floor([flip(), same(2)], edits=(other, one))
        self.assertEqual(first.step(row), other.applied(one.applied(there)))
        self.assertEqual(second.step(row), one.applied(other.applied(there)))
        self.assertNotEqual(first.step(row), second.step(row))
        self.assertNotEqual(first, second)
        for floor in (first, second):
            self.assertEqual(floor.unstep(floor.step(row)), row)

    def test_rows_that_do_not_fit(self):
        floor = Floor([flip(), wall()])
        for step in (floor.step, floor.unstep):
            self.fails(NotAllowed, (1, 0), step, Row((1,)))
            self.fails(NotAllowed, (1, 7), step, Row((0,), (1,), (0,), start=7))
            self.fails(NotAllowed, (2, -3), step, Row((0,), (2, 0, 0, 0, 0, 0, 1), (0,), start=-3))
            self.fails(NotAllowed, (2, -3), step, Row((2,), (1, 1, 0), (0,), start=-2))
        edited = Floor([flip(), wall()], edits=[Exchange(floor.ground, -2, 3, (3, 2, 1, 0))])
        self.fails(NotAllowed, (1, 2), edited.step, Row((0,), (1,), (0,), start=2))


class Crossings(Case):
    def test_pairs(self):
        chance = random.Random(6)
        for floor in FLOORS:
            row = fitting_row(chance, floor)
            for at, (x, seam) in enumerate(zip(floor.borders(), floor.seams())):
                told = seam.numbers(row.word(x - seam.one.reach, x + seam.other.reach))
                self.assertEqual(floor.crossing(row, at), told)
                self.assertEqual(floor.crossing(row=row, seam=at), told)

    def test_errors(self):
        floor = Floor([flip(), same(3), wall()], widths=[2])
        strange = Row((2,))
        for value in (*ANYTHING[:3], *ANYTHING[5:], -1, 2):
            self.fails(InvalidNumber, (value,), floor.crossing, Row((0,)), value)
            self.fails(InvalidNumber, (value,), floor.crossing, strange, value)
        self.fails(NotAllowed, (2, -1), floor.crossing, strange, 1)
        self.fails(InvalidNumber, (0,), Floor([flip()]).crossing, strange, 0)


class Edited(Case):
    def test_one_more_edit(self):
        ground = Ground(4, (0, 2))
        floor = Floor([carry(), move(2, 1)], matchings=[(1, 0, 2, 3, 4, 5, 6, 7)])
        one, other = swap_signs(ground, 0, 0, 1), swap_signs(ground, -1, 3, 1)
        edited = floor.with_edit(one).with_edit(exchange=other)
        self.assertIs(type(edited), Floor)
        self.assertEqual((floor.edits(), edited.edits()), ([], [one, other]))
        again = Floor([carry(), move(2, 1)], matchings=[(1, 0, 2, 3, 4, 5, 6, 7)], edits=[one, other])
        self.assertEqual(edited, again)
        self.assertEqual((edited.ground, edited.flow, edited.reach, len(edited)), (ground, Ratio(2), 4, 2))
        row = Row((3, 0), (1, 1, 0), (1,), start=-2)
        self.assertEqual(edited.step(row), again.step(row))
        self.assertEqual(edited.unstep(edited.step(row)), row)

    def test_moving_floors(self):
        floor = moving_floor([carry(), same(2)])
        edited = floor.with_edit(swap_signs(floor.ground, -1, 0, 3))
        self.assertEqual((edited.frame, edited.machines()), ((1, 1), floor.machines()))
        self.assertEqual(edited, Floor([carry(), same(2)], frame=(1, 1), edits=edited.edits()))

    def test_errors(self):
        floor = Floor([carry(), move(2, 1)])
        for ground in (Ground(4), Ground(2), Ground(4, (1, 2))):
            self.fails(UnlikeGrounds, (), floor.with_edit, Exchange(ground, 0, 0, (0,)))


class Equal(Case):
    def test_each_part_counts(self):
        def floor(machines=(wall(), same(2), flip()), **named):
            named = {"widths": [3], **named}
            return Floor(machines, **named)

        edit = swap_signs(Ground(1, (0, 2)), 0, 0, 1)
        other = swap_signs(Ground(1, (0, 2)), 1, 0, 1)
        self.assertTrue(floor() == floor([wall(), same(2), flip()], matchings=(None, [0, 1, 2, 3]), frame=(1, 0)))
        self.assertTrue(floor(edits=[edit]) == floor().with_edit(edit))
        for unlike in (
            floor((wall(), same(2), same(2))), floor((wall(), Machine(Rule(2, 0, 0, (1, 0))), flip())),
            floor(widths=[4]), floor(matchings=[None, (0, 1, 3, 2)]), floor(edits=[edit]), floor((wall(), flip()), widths=()),
            floor((same(2), same(2), flip())), Floor([wall()]),
        ):
            self.assertFalse(floor() == unlike)
            self.assertFalse(unlike == floor())
            self.assertTrue(floor() != unlike)
        self.assertFalse(floor(edits=[edit, other]) == floor(edits=[other, edit]))
        self.assertFalse(floor(edits=[edit, edit]) == floor())
        for value in (None, 3, "Floor(3 zones, flow 1)", [wall(), same(2), flip()], Ground(1, (0, 2)), wall()):
            self.assertFalse(floor() == value)

    def test_frames(self):
        self.assertFalse(Floor([wall()], frame=(2, 0)) == Floor([wall()]))
        self.assertFalse(Floor([same(2)], frame=(2, 0)) == Floor([same(2)]))
        # the machines in the frame are equal, too, but the frames are not
        self.assertFalse(Floor([move(2, 1)], frame=(1, 1)) == Floor([same(2)]))
        self.assertFalse(Floor([move(2, 1)], frame=(1, 1)) == Floor([same(2)], frame=(2, 0)))
        self.assertTrue(Floor([carry(), same(2)], frame=(1, 1)) == moving_floor([carry(), same(2)]))
        self.assertFalse(Floor([carry() << 1, move(2, -1)]) == moving_floor([carry(), same(2)]))


class Errors(Case):
    def test_wrong_zones(self):
        for value in (*ANYTHING[:9], flip(), {0: flip()}, Row((0,))):
            self.fails(InvalidZone, (-1,), Floor, value)
            self.fails(InvalidZone, (-1,), moving_floor, value)
        for value in NO_MACHINES:
            self.fails(InvalidZone, (0,), Floor, [value])
            self.fails(InvalidZone, (2,), Floor, (flip(), carry(), value, None))
            self.fails(InvalidZone, (2,), moving_floor, (flip(), carry(), value, None))
            self.fails(InvalidZone, (6,), Floor, [flip()] * 6 + [value])

    def test_wrong_frames(self):
        for value in (*ANYTHING, (1,), (1, 0, 0), [1, 0], (0, 0), (13, 0), (1, 13), (1, -13), (True, 0), (1, False)):
            self.fails(InvalidFrame, (), Floor, [carry(), flip()], frame=value)
            self.fails(InvalidFrame, (), Floor, [wall()], frame=value)
        self.fails(TooMany, ("halves", 4 ** 6), Floor, [flip(), carry()], frame=(3, 0))
        self.fails(TooMany, ("halves", 2 ** 12), Floor, [same(4), flip(), carry()], frame=(3, 0))

    def test_unlike_flows(self):
        self.fails(UnlikeFlows, (Ratio(2), Ratio(1)), Floor, [carry(), flip()])
        self.fails(UnlikeFlows, (Ratio(1), Ratio(1, 3)), Floor, [flip(), same(3), third(), carry()], widths=None)
        self.fails(UnlikeFlows, (Ratio(1, 2), Ratio(1)), Floor, [carry(), wall()], frame=(1, 1))
        self.fails(UnlikeFlows, (Ratio(1, 3), Ratio(1, 2)), Floor, [same(3), same(3), same(2)], frame=(1, 1))

    def test_wrong_widths(self):
        for value in (*ANYTHING[:7], [1], (1, 2, 3), {0: 1, 1: 1}, "11"):
            self.fails(InvalidPart, (-1,), Floor, [wall()] * 4, widths=value)
        for value in ([1], (0,), None, 1):
            self.fails(InvalidPart, (-1,), Floor, [wall()], widths=value)
            self.fails(InvalidPart, (-1,), Floor, [wall()] * 2, widths=value)
        for value in (None, True, False, "1", (1,), -1, 401, Ratio(1)):
            self.fails(InvalidPart, (0,), Floor, [wall()] * 4, widths=[value, 401])
            self.fails(InvalidPart, (1,), Floor, [wall()] * 4, widths=(0, value))

    def test_too_narrow_zones(self):
        self.fails(TooNarrow, (1, 1), Floor, [wall()] * 4, widths=[0, 0])
        self.fails(TooNarrow, (2, 1), Floor, [wall()] * 4, widths=[1, 0])
        self.fails(TooNarrow, (2, 8), Floor, [flip(), wall(), flip(), flip()], widths=[1, 7])
        self.assertEqual(Floor([flip(), wall(), flip(), flip()], widths=[1, 8]).borders(), [0, 1, 9])
        self.fails(TooNarrow, (1, 4), Floor, [carry(), move(2, 1), carry()], widths=[3])
        self.fails(TooNarrow, (1, 8), Floor, [wall(), flip(), wall()], widths=[7])
        # the reach is that in the frame
        self.fails(TooNarrow, (1, 4), Floor, [carry(), same(2), carry()], widths=[3], frame=(1, 1))
        self.assertEqual(Floor([carry(), same(2), carry()], widths=[4], frame=(1, 1)).widths(), [4])

    def test_wrong_matchings(self):
        for value in (*ANYTHING[1:9], [None], [None] * 3, {0: None, 1: None}):
            self.fails(InvalidPart, (-1,), Floor, [flip(), same(3), flip()], widths=[2], matchings=value)
        for value in ((None,), 0):
            self.fails(InvalidPart, (-1,), Floor, [flip()], matchings=value)
        for value in ([], 4, [0, 1, 2], "0123"):
            self.fails(InvalidMatching, (-1,), Floor, [flip(), same(3)], matchings=[value])
        self.fails(InvalidMatching, (1,), Floor, [flip(), same(3)], matchings=[(0, 0, 1, 2)])
        self.fails(InvalidMatching, (3,), Floor, [wall(), flip(), wall()], widths=[8], matchings=[None, (0, 1, 2, 4)])
        self.fails(InvalidMatching, (2,), Floor, [wall(), flip(), wall()], widths=[8],
                   matchings=[(0, 1, True, 2), (0, 1, 2, 4)])

    def test_wrong_edits(self):
        for ground in (Ground(4), Ground(2), Ground(4, (1, 2)), Ground(4, (0, 2), (9, 4))):
            edit = Exchange(ground, 0, 0, (0,))
            self.fails(UnlikeGrounds, (), Floor, [carry(), move(2, 1)], edits=[edit])
            right = Exchange(Ground(4, (0, 2)), 0, 0, (0,))
            self.fails(UnlikeGrounds, (), Floor, [carry(), move(2, 1)], edits=[right, edit])

    def test_order_of_errors(self):
        wrong = {"widths": None, "matchings": 1, "edits": [Exchange(Ground(16), 0, 0, (0,))], "frame": None}
        self.fails(InvalidZone, (1,), Floor, [carry(), None] + [flip()] * 6, **wrong)
        self.fails(TooMany, ("zones", 7), Floor, [carry()] + [flip()] * 6, **wrong)
        self.fails(InvalidFrame, (), Floor, [carry(), flip(), flip()], **wrong)
        wrong["frame"] = (3, 0)
        self.fails(TooMany, ("halves", 4 ** 6), Floor, [carry(), flip(), flip()], **wrong)
        del wrong["frame"]
        self.fails(UnlikeFlows, (Ratio(2), Ratio(1)), Floor, [carry(), flip(), flip()], **wrong)
        self.fails(InvalidPart, (-1,), Floor, [flip()] * 3, **wrong)
        wrong["widths"] = [401]
        self.fails(InvalidPart, (0,), Floor, [flip()] * 3, **wrong)
        wrong["widths"] = [7]
        self.fails(TooNarrow, (1, 8), Floor, [flip()] * 3, **wrong)
        wrong["widths"] = [8]
        self.fails(InvalidPart, (-1,), Floor, [flip()] * 3, **wrong)
        wrong["matchings"] = [None, ()]
        self.fails(InvalidMatching, (-1,), Floor, [flip()] * 3, **wrong)
        wrong["matchings"] = None
        self.fails(UnlikeGrounds, (), Floor, [flip()] * 3, **wrong)


class Moving(Case):
    def test_common_frames(self):
        floor = moving_floor([carry(), same(2)])
        self.assertIs(type(floor), Floor)
        self.assertEqual((floor.frame, floor.borders(), floor.flow), ((1, 1), [0], Ratio(1, 2)))
        floor = moving_floor([carry(), wall()])
        self.assertEqual((floor.frame, floor.machines()), ((2, 1), [carry() + carry() << 1, wall()]))
        self.assertEqual(moving_floor([flip(), same(3)]), Floor([flip(), same(3)]))
        self.assertEqual(moving_floor(machines=(carry(),)), Floor([carry()]))
        self.assertEqual(moving_floor([carry(), carry()]), Floor([carry(), carry()]))

    def test_widths_and_matchings(self):
        matchings = [None, list(range(8))[::-1]]
        floor = moving_floor([carry(), same(2), carry()], widths=[4], matchings=matchings)
        self.assertEqual(floor, Floor([carry(), same(2), carry()], widths=[4], matchings=matchings, frame=(1, 1)))
        self.assertEqual(floor.seams()[1].matching, (7, 6, 5, 4, 3, 2, 1, 0))

    def test_errors(self):
        self.fails(TooMany, ("zones", 7), moving_floor, [carry()] * 6 + [move(4, 2)], widths=None)
        self.fails(NoSpeed, (2, 2), moving_floor, [carry(), same(4)], widths=None)
        self.fails(NoSpeed, (3, 2), moving_floor, [same(2), carry(), beside(move(2, 1), 3)], widths=None)
        self.fails(UnlikeSpeeds, ((1, 1), (2, 1)), moving_floor, [same(2), carry(), beside(move(2, 1), 4)])
        self.fails(InvalidPart, (-1,), moving_floor, [carry(), same(2)], widths=[1])
        self.fails(TooNarrow, (1, 4), moving_floor, [carry(), same(2), carry()], widths=[3], matchings=0)
        self.fails(InvalidPart, (-1,), moving_floor, [carry(), same(2)], matchings=[])
        self.fails(InvalidMatching, (0,), moving_floor, [carry(), same(2)], matchings=[[8] * 8])
        # in the frame (2, 1) the machine is too wide
        self.fails(TooMany, ("halves", 8 ** 4), moving_floor, [beside(move(2, 1), 4), same(2)], widths=None)


class Walls(Case):
    def test_a_machine_can_be_ended_exactly_if_its_flow_is_1(self):
        for machine in (flip(), same(3), Machine(Rule(4, 0, 0, (2, 0, 1, 3)))):
            self.assertEqual(Floor([machine, wall()]).flow, Ratio(1))
        for machine in (carry(), third(), move(2, 1)):
            self.fails(UnlikeFlows, (Ratio(1), machine.flow), Closed, [machine], [8])
            self.fails(UnlikeFlows, (machine.flow, Ratio(1)), Floor, [machine, wall()])


if __name__ == "__main__":
    unittest.main()
