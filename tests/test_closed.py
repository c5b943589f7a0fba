"""Closed floors: point [32] and the class Closed of borderflow/floors.py."""

import itertools
import random
import unittest
from collections import Counter

from borderflow.errors import (
    InvalidMatching, InvalidPart, InvalidWord, InvalidZone, TooMany, TooNarrow, UnlikeFlows, UnlikeGrounds,
)
from borderflow.exchanges import Exchange, swap_signs
from borderflow.floors import Closed, Floor
from borderflow.grounds import Ground
from borderflow.machines import Machine, move, same, wall
from borderflow.ratios import Ratio
from borderflow.rows import Row
from borderflow.rules import Rule
from tests.cases import Case
from tests.known import carry, flip

ANYTHING = (None, True, False, 0, 1, "", "1", (), [], (None,), Row((0,)), Ratio(1))
# three bits of which the first moves to the right and the second to the left
BOTH = move(2, 1) * move(2, -1)
TURN = Machine(Rule(3, 0, 0, (1, 2, 0)))


def closed_floors():
    chance = random.Random(1)
    lists = (
        ([flip()], [8]), ([flip()], [9]), ([BOTH], [4]), ([TURN], [3]), ([same(2), flip()], [1, 8]), ([wall()], [3]),
        ([flip(), TURN, wall()], [8, 1, 1]), ([same(2), TURN, same(2), same(3)], [1, 1, 2, 1]),
    )
    for machines, widths in lists:
        yield Closed(machines, widths)
        sizes = [one.left * other.right for one, other in zip([wall(), *machines], [*machines, wall()])]
        matchings = [chance.sample(range(size), size) for size in sizes]
        floor = Closed(machines, widths, matchings=matchings)
        yield floor
        table = list(range(floor.ground.word_count(0, 2)))
        chance.shuffle(table)
        yield floor.with_edit(Exchange(floor.ground, 0, 2, table))


def all_of(floor):
    return list(itertools.product(*[range(floor.ground[cell]) for cell in range(floor.cells)]))


class Making(Case):
    def test_attributes(self):
        floor = Closed([flip(), TURN], (9, 2))
        self.assertIsInstance(floor, Floor)
        self.assertEqual((floor.cells, len(floor), floor.flow, floor.frame), (11, 4, Ratio(1), (1, 0)))
        self.assertEqual(floor.ground, Ground(1, (0, 2), (9, 3), (11, 1)))
        self.assertEqual((floor.borders(), floor.widths(), floor.reach), ([0, 9, 11], [9, 2], 7))
        self.assertEqual(floor.machines(), [wall(), flip(), TURN, wall()])
        self.assertEqual([zone[:2] for zone in floor.zones()], [(None, 0), (0, 9), (9, 11), (11, None)])
        self.assertEqual(repr(floor), "Closed(11 cells)")
        self.assertEqual(floor.machine_at(0), flip())

    def test_by_name(self):
        edit = swap_signs(Ground(1, (0, 2), (8, 1)), 0, 0, 1)
        floor = Closed(machines=[flip()], widths=[8], matchings=[None, (1, 0, 2, 3)], edits=[edit])
        self.assertEqual(floor.seams()[1].matching, (1, 0, 2, 3))
        self.assertEqual(floor.edits(), [edit])

    def test_one_to_four_middles(self):
        self.assertEqual(Closed([same(2)] * 4, [1, 2, 3, 4]).cells, 10)
        self.fails(TooMany, ("zones", 7), Closed, [same(2)] * 5, None)
        self.assertEqual(Closed([same(2)], [400]).cells, 400)

    def test_a_closed_floor_equals_a_floor_and_such_a_floor_equals_it(self):
        matchings = [None, [1, 0, 2, 3]]
        closed = Closed([flip()], [8], matchings=matchings)
        floor = Floor([wall(), flip(), wall()], widths=[8], matchings=matchings)
        self.assertTrue(closed == floor)
        self.assertTrue(floor == closed)
        self.assertFalse(closed != floor)
        self.assertTrue(closed == Closed([flip()], [8], matchings=matchings))
        edit = swap_signs(closed.ground, 0, 0, 1)
        for unlike in (
            Closed([flip()], [9], matchings=matchings), Closed([flip()], [8]), closed.with_edit(edit),
            Closed([same(2)], [8]), Closed([wall()], [8]), Floor([wall(), flip(), wall()], widths=[8]),
        ):
            self.assertFalse(closed == unlike)
            self.assertFalse(unlike == closed)
        self.assertFalse(Closed([wall()], [1]) == Floor([wall()] * 3, widths=[1], frame=(2, 0)))
        for value in (None, 8, "Closed(8 cells)", flip()):
            self.assertFalse(closed == value)

    def test_with_edit(self):
        floor = Closed([flip()], [8])
        edit = Exchange(floor.ground, 2, 5, (1, 2, 3, 4, 5, 6, 7, 0))
        edited = floor.with_edit(exchange=edit)
        self.assertIs(type(edited), Closed)
        self.assertEqual((edited.cells, edited.edits(), edited.reach, floor.edits()), (8, [edit], 9, []))
        self.assertEqual(repr(edited), "Closed(8 cells)")
        self.assertEqual(edited, Closed([flip()], [8], edits=[edit]))
        word = (0, 1, 0, 0, 1, 1, 0, 1)
        self.assertEqual(edited.word_step(word), edit.applied(Row((0,), floor.word_step(word), (0,))).word(0, 8))
        self.assertEqual(edited.word_unstep(edited.word_step(word)), word)
        self.fails(UnlikeGrounds, (), floor.with_edit, swap_signs(Ground(2), 0, 0, 1))


class Words(Case):
    def test_a_step_is_a_permutation(self):
        for floor in closed_floors():
            words = all_of(floor)
            new = [floor.word_step(word) for word in words]
            self.assertEqual(sorted(new), words)
            self.assertEqual([floor.word_unstep(word) for word in new], words)

    def test_same_as_the_floor(self):
        for floor in closed_floors():
            for word in all_of(floor)[::7]:
                row = floor.step(Row((0,), word, (0,)))
                self.assertEqual(floor.word_step(word=word), row.word(0, floor.cells))
                row = floor.unstep(Row((0,), word, (0,)))
                self.assertEqual(floor.word_unstep(word=word), row.word(0, floor.cells))

    def test_homes(self):
        for floor in closed_floors():
            words = all_of(floor)
            homes = {}
            for word in words:
                cycle = [word]
                if word in homes:
                    continue
                while floor.word_step(cycle[-1]) != word:
                    cycle.append(floor.word_step(cycle[-1]))
                homes.update({each: len(cycle) for each in cycle})
            for word in words[::11]:
                self.assertEqual(floor.home(word=word), homes[word])
            rounds = floor.rounds()
            self.assertEqual(rounds, sorted(Counter(homes.values()).items()))
            self.assertEqual(sum(count for _, count in rounds), len(words))

    def test_words_that_come_home_late(self):
        # with the plain matching the edit adds 1 to the index of the word
        floor = Closed([same(2)], [12], edits=[])
        self.assertEqual(floor.rounds(), [(1, 4096)])
        floor = floor.with_edit(Exchange(floor.ground, 0, 12, [*range(1, 4096), 0]))
        self.assertEqual(floor.home((0,) * 12), 4096)
        self.assertEqual(floor.rounds(), [(4096, 4096)])
        self.assertEqual(Closed([TURN], [2]).rounds(), [(3, 9)])
        self.assertEqual(Closed([TURN, same(4)], [1, 1]).home((2, 3)), 3)
        self.assertEqual(Closed([wall()], [5]).rounds(), [(1, 1)])

    def test_reflections(self):
        # the right halves at the left wall are told by the first bits below it and behind it; the plain matching gives
        # them the two bits of the first cell
        floor = Closed([BOTH], [4])
        self.assertEqual(floor.word_step((0, 2, 1, 0)), (0, 1, 2, 0))
        self.assertEqual(floor.word_step((1, 0, 0, 0)), (0, 2, 0, 0))
        self.assertEqual(floor.word_step((2, 0, 0, 0)), (2, 0, 0, 0))
        self.assertEqual(floor.word_unstep((0, 2, 0, 0)), (1, 0, 0, 0))
        # what is matched the other way round is handed over
        floor = Closed([BOTH], [4], matchings=[(0, 2, 1, 3), None])
        self.assertEqual(floor.word_step((2, 0, 0, 0)), (0, 2, 0, 0))
        self.assertEqual(floor.word_step((1, 0, 0, 0)), (2, 0, 0, 0))

    def test_wrong_words(self):
        floor = Closed([flip(), TURN], [8, 1])
        wrong = (
            *ANYTHING, (0,) * 8, (0,) * 10, [0] * 9, (0,) * 8 + (3,), (2,) + (0,) * 8, (True,) + (0,) * 8,
            (0,) * 8 + (-1,), (0,) * 8 + ("0",), "000000000", Row((0,), (0,) * 9, (0,)),
        )
        for call in (floor.word_step, floor.word_unstep, floor.home):
            for value in wrong:
                self.fails(InvalidWord, (value,), call, value)
        self.assertEqual(len(floor.word_step((1,) * 8 + (2,))), 9)

    def test_limit_of_words(self):
        self.assertEqual(Closed([same(2)], [12]).home((1,) * 12), 1)
        floor = Closed([same(2)], [13])
        self.fails(TooMany, ("words", 8192), floor.home, (0,) * 13)
        self.fails(TooMany, ("words", 8192), floor.rounds)
        self.fails(InvalidWord, ((0,) * 12,), floor.home, (0,) * 12)
        self.assertEqual(floor.word_step((1,) * 13), (1,) * 13)
        self.fails(TooMany, ("words", 3 ** 7 * 2), Closed([same(3), same(2)], [7, 1]).rounds)


class Errors(Case):
    def test_wrong_zones(self):
        for value in (*ANYTHING[:9], flip()):
            self.fails(InvalidZone, (-1,), Closed, value, None)
        for value in (None, True, 0, "machine", [flip()], Row((0,))):
            self.fails(InvalidZone, (0,), Closed, [value], None)
            # among the middles, not counted with the walls
            self.fails(InvalidZone, (1,), Closed, (flip(), value), None)
            self.fails(InvalidZone, (4,), Closed, [flip()] * 4 + [value], None)

    def test_flows(self):
        self.fails(UnlikeFlows, (Ratio(1), Ratio(2)), Closed, [carry()], None)
        self.fails(UnlikeFlows, (Ratio(1), Ratio(2)), Closed, [flip(), carry()], None)

    def test_widths(self):
        for value in (*ANYTHING[:9], [8], [8, 8, 8], "88"):
            self.fails(InvalidPart, (-1,), Closed, [flip(), flip()], value)
        self.fails(InvalidPart, (1,), Closed, [flip(), flip()], [0, 401])
        self.fails(InvalidPart, (0,), Closed, [flip(), flip()], [True, 401])
        # zones are counted with the walls
        self.fails(TooNarrow, (1, 8), Closed, [flip(), flip()], [7, 7])
        self.fails(TooNarrow, (2, 8), Closed, [flip(), flip()], [8, 7])
        self.fails(TooNarrow, (1, 1), Closed, [same(2)], [0])

    def test_matchings_and_edits(self):
        for value in (0, [], [None], [None] * 3):
            self.fails(InvalidPart, (-1,), Closed, [flip()], [8], matchings=value)
        self.fails(InvalidMatching, (-1,), Closed, [flip()], [8], matchings=[[0], [0]])
        self.fails(InvalidMatching, (3,), Closed, [flip()], [8], matchings=[[0, 1, 2, 2], [0]])
        edit = Exchange(Ground(2), 0, 0, (0,))
        self.fails(UnlikeGrounds, (), Closed, [flip()], [8], edits=[edit])
        self.fails(TooNarrow, (1, 8), Closed, [flip()], [7], matchings=0, edits=[edit])
        self.fails(InvalidPart, (-1,), Closed, [flip()], [8], matchings=0, edits=[edit])


if __name__ == "__main__":
    unittest.main()
