"""Floors that are kin, and their difference: point [34] and the interface of borderflow/kin.py."""

import random
import unittest

from borderflow.errors import TooMany, UnlikeFloors
from borderflow.exchanges import Exchange, swap_signs
from borderflow.floors import Closed, Floor
from borderflow.grounds import Ground
from borderflow.kin import are_kin, difference, floors_alike
from borderflow.machines import Machine, move, same, wall
from borderflow.rows import Row
from borderflow.rules import Rule
from tests.cases import Case
from tests.known import carry, flip

RIGHT = move(2, 1)
LEFT = move(2, -1)
TURN = Machine(Rule(2, -1, -1, (1, 0)))
PLAIN = Floor([RIGHT])
TWO = Ground(2)
SEAM = Floor([RIGHT, RIGHT], matchings=[(1, 0, 3, 2)])


def both_ways():
    """Four signs of two bits, of which one moves to the right and one to the left."""
    return move(2, 1) * move(2, -1)


def drawn(chance, size):
    matching = list(range(size))
    chance.shuffle(matching)
    return matching


def some_edits(chance, ground, many):
    edits = []
    for _ in range(many):
        start = chance.randint(-2, 4)
        count = ground.word_count(start, start + 2)
        edits.append(Exchange(ground, start, start + 2, drawn(chance, count)))
    return edits


def fitting_row(chance, ground):
    word = tuple(chance.randrange(ground[cell]) for cell in range(-16, 24))
    return Row((chance.randrange(ground[-20]),), word, (chance.randrange(ground[30]),), start=-16)


def some_pairs():
    """Pairs of kin floors that differ in matchings, in seams within a zone, in edits, and in several of these."""
    chance = random.Random(1)
    zones = [
        [flip(), wall()], [wall(), flip()], [same(3), flip(), same(4)], [both_ways(), same(2)],
        [same(2), both_ways(), wall()], [wall(), flip(), wall()],
    ]
    pairs = []
    for machines in zones:
        widths = [8 + chance.randint(0, 2) for _ in machines[1:-1]]
        sizes = [one.left * other.right for one, other in zip(machines, machines[1:])]
        plain = Floor(machines, widths=widths)
        for _ in range(3):
            matchings = [drawn(chance, size) for size in sizes[:1]] + [None for _ in sizes[1:]]
            pairs.append((plain, Floor(machines, widths=widths, matchings=matchings)))
            edits = some_edits(chance, plain.ground, chance.randint(1, 2))
            pairs.append((Floor(machines, widths=widths, edits=edits), plain))
    for machine in (LEFT, TURN, ~TURN):
        one = Floor([machine, machine, machine], widths=[4], matchings=[drawn(chance, 4), drawn(chance, 4)])
        other = Floor([machine, machine], matchings=[drawn(chance, 4)])
        pairs += [(one, other), (other, one), (one, Floor([machine])), (Floor([machine]), one), (Floor([machine]), other)]
    near = [flip(), same(2), flip()]
    pairs.append((Floor(near, widths=[1]), Floor(near, widths=[1], matchings=[None, drawn(chance, 4)])))
    pairs.append((Floor(near, widths=[1]), Floor(near, widths=[1], matchings=[drawn(chance, 4), None])))
    for _ in range(6):
        one = Floor([RIGHT, RIGHT, RIGHT], widths=[4], matchings=[drawn(chance, 4), drawn(chance, 4)])
        other = Floor([RIGHT, RIGHT], matchings=[drawn(chance, 4)])
        pairs += [(one, other), (other, one), (one, PLAIN), (PLAIN, one), (PLAIN, other), (other, other)]
        narrow = Floor([RIGHT, RIGHT, RIGHT], widths=[5], matchings=[drawn(chance, 4), None])
        pairs += [(narrow, Floor([RIGHT, RIGHT], matchings=[None])), (PLAIN, narrow)]
    edits = [Exchange(TWO, start, start + 2, drawn(chance, 4)) for start in (0, 1, 3)]
    pairs.append((Floor([RIGHT], edits=edits), Floor([RIGHT, RIGHT], matchings=[(3, 0, 2, 1)], edits=edits[::-1])))
    machines = [carry(), RIGHT]
    size = 2 * 4
    pairs.append((Floor(machines), Floor(machines, matchings=[drawn(chance, size)])))
    framed = [carry(), same(2)]
    framed_size = len(Floor(framed, frame=(1, 1)).seams()[0])
    pairs.append((Floor(framed, frame=(1, 1)), Floor(framed, frame=(1, 1), matchings=[drawn(chance, framed_size)])))
    return pairs


PAIRS = some_pairs()


class Kin(Case):
    def test_floors_that_are_kin(self):
        for one, other in PAIRS:
            self.assertIs(are_kin(one, other), True)
            self.assertIs(are_kin(one=other, other=one), True)
        self.assertIs(are_kin(Floor([wall(), flip(), wall()], widths=[9]), Closed([flip()], [9])), True)

    def test_equal_machines_that_are_made_in_another_way(self):
        self.assertIs(are_kin(Floor([~carry()]), Floor([Machine(carry().back)])), True)
        self.assertIs(are_kin(Floor([flip(), flip(), same(3)], widths=[8]), Floor([flip(), same(3)])), False)
        shifted = Floor([flip(), same(2), same(2), same(3)], widths=[3, 5])
        self.assertIs(are_kin(shifted, Floor([flip(), same(2), same(3)], widths=[8])), True)

    def test_machines_that_are_unlike_somewhere(self):
        plain = Floor([flip(), same(2), flip()], widths=[8])
        unlike = (
            Floor([flip()]), Floor([same(2)]), Floor([flip(), same(2)]), Floor([same(2), flip()]),
            Floor([flip(), same(2), flip()], widths=[9]), Floor([flip(), same(3), flip()], widths=[8]),
            Floor([flip(), same(2), same(2)], widths=[8]), Floor([wall(), same(2), flip()], widths=[8]),
            Floor([flip(), same(2), flip(), flip()], widths=[7, 9]),
            Floor([flip(), same(2), wall(), flip()], widths=[4, 4]),
        )
        for other in unlike:
            self.assertIs(are_kin(plain, other), False, other)
            self.assertIs(are_kin(other, plain), False)
            self.fails(UnlikeFloors, (), difference, plain, other)
            self.fails(UnlikeFloors, (), floors_alike, other, plain)

    def test_far_to_the_left_and_right(self):
        self.assertIs(are_kin(Floor([same(2), RIGHT << 1]), Floor([RIGHT << 1, same(2)])), True)
        self.assertIs(are_kin(Floor([RIGHT, carry()]), Floor([carry(), RIGHT])), False)
        self.assertIs(are_kin(Floor([RIGHT, carry()]), Floor([RIGHT, carry(), carry()], widths=[4])), True)
        self.assertIs(are_kin(Floor([RIGHT, carry()]), Floor([RIGHT, RIGHT, carry()], widths=[4])), False)

    def test_frames(self):
        at_rest = Floor([same(2)])
        self.assertIs(are_kin(at_rest, Floor([same(2)], frame=(2, 0))), False)
        self.assertIs(are_kin(Floor([same(2)], frame=(2, 0)), Floor([same(2)], frame=(2, 0))), True)
        # the same machine in the frame, but not the same frame
        moving = Floor([RIGHT], frame=(1, 1))
        self.assertEqual(moving.machines(), [same(2)])
        self.assertIs(are_kin(at_rest, moving), False)
        self.fails(UnlikeFloors, (), difference, at_rest, moving)
        # other machines, but the same ones in the frame
        twice = Machine(Rule(2, 0, 0, (1, 0)))
        self.assertIs(are_kin(Floor([twice], frame=(2, 0)), Floor([same(2)], frame=(2, 0))), True)


class Differences(Case):
    def test_done_behind_a_step_of_the_first_floor(self):
        chance = random.Random(2)
        for one, other in PAIRS:
            told = difference(one, other)
            self.assertIs(type(told), Exchange)
            self.assertEqual(told.ground, one.ground)
            for _ in range(12):
                row = fitting_row(chance, one.ground)
                self.assertEqual(told.applied(one.step(row)), other.step(row), (one, other))
                self.assertEqual(told.applied(row), other.step(one.unstep(row)))
            self.assertEqual(difference(one=other, other=one), ~told)
            self.assertIs(floors_alike(one, other), told.is_empty())
            self.assertIs(floors_alike(one=other, other=one), told.is_empty())

    def test_what_is_different(self):
        told = [difference(one, other).is_empty() for one, other in PAIRS]
        self.assertGreater(told.count(False), 40)
        self.assertGreaterEqual(told.count(True), 6)

    def test_a_seam_within_a_zone(self):
        # the pairs of a plain seam are the words ahead of it, in order, as a move to the right keeps them
        self.assertTrue(floors_alike(Floor([RIGHT, RIGHT]), PLAIN))
        told = difference(PLAIN, SEAM)
        self.assertEqual((told.start, told.end, told.table), (1, 2, (1, 0)))
        self.assertEqual(difference(SEAM, PLAIN), told)
        self.assertFalse(floors_alike(PLAIN, SEAM))
        # the two floors have seams at other borders
        far = Floor([RIGHT, RIGHT, RIGHT], widths=[4], matchings=[None, (1, 0, 3, 2)])
        self.assertEqual(difference(PLAIN, far), swap_signs(TWO, 5, 0, 1))
        self.assertEqual(difference(SEAM, far), told + swap_signs(TWO, 5, 0, 1))

    def test_edits_and_their_order(self):
        one, other = swap_signs(TWO, 0, 0, 1), Exchange(TWO, 0, 2, (0, 1, 3, 2))
        first, second = Floor([RIGHT], edits=[one, other]), Floor([RIGHT], edits=[other, one])
        self.assertEqual(difference(PLAIN, first), one + other)
        self.assertEqual(difference(first, PLAIN), ~other + ~one)
        self.assertEqual(difference(first, second), ~other + ~one + other + one)
        self.assertFalse(floors_alike(first, second))
        self.assertTrue(floors_alike(Floor([RIGHT], edits=[one, one]), PLAIN))
        self.assertTrue(floors_alike(Floor([RIGHT], edits=[one, one, one]), Floor([RIGHT], edits=[one])))
        # the edits of the second floor are done behind what the seams make
        cell = Exchange(TWO, 0, 2, (0, 2, 3, 1))
        self.assertEqual(difference(PLAIN, SEAM.with_edit(cell)), swap_signs(TWO, 1, 0, 1) + cell)
        self.assertEqual(difference(SEAM.with_edit(cell), PLAIN), ~cell + swap_signs(TWO, 1, 0, 1))

    def test_nothing_to_do(self):
        for one, other in PAIRS:
            for floor in (one, other):
                told = difference(floor, floor)
                self.assertTrue(told.is_empty())
                self.assertEqual(told, Exchange(floor.ground, 0, 0, (0,)))

    def test_equal_seams_are_left_out(self):
        # the exchange at a seam of Flip has too many words, but the seam is the same in both floors
        one = Floor([flip(), flip()], matchings=[drawn(random.Random(3), 16)])
        edit = swap_signs(TWO, 7, 0, 1)
        self.assertEqual(difference(one, one.with_edit(edit)), edit)
        self.fails(TooMany, ("words", 65536), difference, one, Floor([flip(), flip()]))
        self.fails(TooMany, ("words", 65536), difference, one, Floor([flip()]))
        self.fails(TooMany, ("words", 65536), difference, Floor([flip()]), one)
        self.fails(TooMany, ("words", 65536), floors_alike, Floor([flip()]), Floor([flip(), flip()]))


class Limits(Case):
    def test_words_at_a_seam(self):
        # [x - 4, x + 4) with four signs below the seam and two from there on has 4096 words
        told = difference(Floor([carry(), RIGHT]), Floor([carry(), RIGHT], matchings=[(1, 0, 2, 3, 4, 5, 6, 7)]))
        self.assertFalse(told.is_empty())
        words = 4 ** 8
        self.fails(TooMany, ("words", words), difference, Floor([carry()]), Floor([carry(), carry()]))
        three = move(3, 1)
        self.fails(TooMany, ("words", 3 ** 8), difference, Floor([three, three]), Floor([three]))
        # also if the exchange would change nothing
        self.assertEqual(Floor([three, three]).step(Row((0,), (1, 2), (0,))), three.step(Row((0,), (1, 2), (0,))))

    def test_words_behind_one_another(self):
        near = [swap_signs(TWO, 0, 0, 1), swap_signs(TWO, 11, 0, 1)]
        far = [swap_signs(TWO, 0, 0, 1), swap_signs(TWO, 12, 0, 1)]
        self.assertEqual(difference(PLAIN, Floor([RIGHT], edits=near)).table[0], 2 ** 11 + 1)
        self.fails(TooMany, ("words", 2 ** 13), difference, PLAIN, Floor([RIGHT], edits=far))
        self.fails(TooMany, ("words", 2 ** 13), difference, Floor([RIGHT], edits=far), PLAIN)
        wide = Floor([RIGHT, RIGHT, RIGHT], widths=[12], matchings=[(1, 0, 3, 2), (1, 0, 3, 2)])
        self.fails(TooMany, ("words", 2 ** 13), difference, PLAIN, wide)
        narrow = Floor([RIGHT, RIGHT, RIGHT], widths=[11], matchings=[(1, 0, 3, 2), (1, 0, 3, 2)])
        self.assertEqual(difference(PLAIN, narrow), swap_signs(TWO, 1, 0, 1) + swap_signs(TWO, 12, 0, 1))

    def test_the_first_one_that_has_too_many(self):
        def edit(cell):
            return swap_signs(TWO, cell, 0, 1)

        # the edits of the first floor, the last one first, go ahead of all seams
        ahead = Floor([flip()], edits=[edit(0), edit(20), edit(-3)])
        self.fails(TooMany, ("words", 2 ** 24), difference, ahead, Floor([flip(), flip()]))
        # the seams go ahead of the edits of the second floor
        behind = Floor([flip(), flip()], edits=[edit(0), edit(20)])
        self.fails(TooMany, ("words", 2 ** 16), difference, Floor([flip()]), behind)
        # the seams of the first floor, ascending, go ahead of those that only the second one has
        one = Floor([RIGHT, RIGHT, RIGHT], widths=[20], matchings=[(1, 0, 3, 2), (1, 0, 3, 2)])
        other = Floor([RIGHT, RIGHT, RIGHT], widths=[15], matchings=[None, (1, 0, 3, 2)])
        self.fails(TooMany, ("words", 2 ** 21), difference, one, other)
        self.fails(TooMany, ("words", 2 ** 16), difference, other, one)
        self.fails(TooMany, ("words", 2 ** 21), difference, one, PLAIN.with_edit(edit(-40)))
        self.fails(TooMany, ("words", 2 ** 42), difference, PLAIN.with_edit(edit(-40)), one)
        self.fails(TooMany, ("words", 2 ** 61), difference, PLAIN.with_edit(edit(61)), one)

    def test_unlike_floors_go_ahead(self):
        far = Floor([RIGHT], edits=[swap_signs(TWO, 0, 0, 1), swap_signs(TWO, 20, 0, 1)])
        self.fails(UnlikeFloors, (), difference, far, Floor([same(2)]))

    def test_floors_stay_as_they_are(self):
        one = Floor([RIGHT, RIGHT], edits=[swap_signs(TWO, 0, 0, 1)])
        same_one = Floor([RIGHT, RIGHT], edits=[swap_signs(TWO, 0, 0, 1)])
        difference(one, SEAM)
        floors_alike(SEAM, one)
        self.assertEqual(one, same_one)


if __name__ == "__main__":
    unittest.main()
