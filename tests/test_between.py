"""Seen sets between walls: points [31], [32] and [41] and the interface of borderflow/between.py."""

import random
import unittest

from borderflow.between import SeenBetween
from borderflow.errors import (
    CantStand, DuplicateName, InvalidName, InvalidNumber, InvalidSaying, TooMany, UnknownName,
)
from borderflow.exchanges import Exchange, swap_signs
from borderflow.floors import Closed
from borderflow.machines import Machine, move, same, wall
from borderflow.ratios import Ratio
from borderflow.rows import Row
from borderflow.rules import Rule
from tests.cases import Case
from tests.known import flip

NO_NUMBERS = (None, True, False, "1", "", (), [], (1,), [1], Ratio(1))
NO_NAMES = (None, True, 0, "", "A", "a1", "ninechars", (), [], ("a",), ["a"], Ratio(1), Row((0,)))
NO_PAIRS = (*NO_NUMBERS, 0, [0, 0], (0,), (0, 0, 0), (0, True), (False, 0), (0, None), (-1, 0), (0, -1), "00")
LETTERS = "abcdefghijklmn"


def shuffled(chance, count):
    items = list(range(count))
    chance.shuffle(items)
    return items


def some_floors():
    chance = random.Random(1)
    rolls = move(2, 1) * move(2, -1)
    turn = Machine(Rule(3, 0, 0, (1, 2, 0)))
    return [
        Closed([flip()], [8]),
        Closed([flip()], [8], matchings=[shuffled(chance, 4), shuffled(chance, 4)]),
        Closed([rolls], [4], matchings=[shuffled(chance, 4), None]),
        Closed([turn, same(2)], [2, 3]),
        Closed([turn, wall(), same(4)], [1, 1, 3], edits=[]),
        Closed([wall()], [3]),
    ]


FLOORS = some_floors()


def edited_floor():
    floor = Closed([same(2), same(3)], [2, 2])
    return floor.with_edit(Exchange(floor.ground, 1, 3, (2, 4, 1, 5, 0, 3)))


FLOORS.append(edited_floor())


def all_words_of(floor):
    return [floor.ground.word_of(0, floor.cells, at) for at in range(floor.ground.word_count(0, floor.cells))]


def history(floor, word, tick):
    """The words at the ticks from -4 to 4 of the history that has a word at a tick, by the words of point [41]."""
    found = {tick: word}
    for at in range(tick, 4):
        found[at + 1] = floor.word_step(found[at])
    for at in range(tick, -4, -1):
        found[at - 1] = floor.word_unstep(found[at])
    return found


def crossing(floor, word, seam):
    return floor.crossing(Row((0,), word, (0,), start=0), seam)


def is_kept(floor, told, saying):
    _, kind, at, tick, allowed = saying
    return (told[tick][at] if kind == "cell" else crossing(floor, told[tick], at)) in allowed


def say_some(chance, seen, many):
    floor = seen.floor
    for at in range(many):
        if chance.random() < 0.5:
            cell = chance.randrange(floor.cells)
            signs = [chance.randrange(floor.ground[cell]) for _ in range(chance.randint(1, 2))]
            seen.say(LETTERS[at], cell, chance.randint(-4, 4), *signs)
        else:
            seam = chance.randrange(len(floor) - 1)
            told = floor.seams()[seam]
            pairs = [
                (chance.randrange(told.one.left), chance.randrange(told.other.right))
                for _ in range(chance.randint(1, 3))
            ]
            seen.say_crossing(LETTERS[at], seam, chance.randint(-4, 3), *pairs)


class Sayings(Case):
    def test_a_new_set(self):
        floor = Closed([flip()], [8])
        for seen in (SeenBetween(floor), SeenBetween(floor=floor)):
            self.assertIs(seen.floor, floor)
            self.assertEqual((seen.sayings(), len(seen), repr(seen)), ([], 0, "SeenBetween(0 sayings)"))
            self.assertTrue(bool(seen))
            self.assertFalse("a" in seen)
            self.assertEqual((seen.ways(), seen.share, seen.stands(), seen.clashing()), (256, Ratio(1), True, None))
        self.assertFalse(SeenBetween(floor) == SeenBetween(floor))

    def test_both_kinds_in_order(self):
        seen = SeenBetween(Closed([flip()], [8]))
        self.assertIsNone(seen.say("late", 7, 4, 1, 0, 1))
        self.assertIsNone(seen.say_crossing("eightish", 1, 3, (3, 0), (1, 0), (3, 0)))
        seen.say("a", 0, -4, 1)
        seen.say_crossing("b", 0, -4, (0, 2))
        told = [
            ("late", "cell", 7, 4, (0, 1)), ("eightish", "crossing", 1, 3, ((1, 0), (3, 0))), ("a", "cell", 0, -4, (1,)),
            ("b", "crossing", 0, -4, ((0, 2),)),
        ]
        self.assertEqual(seen.sayings(), told)
        self.assertEqual((len(seen), repr(seen)), (4, "SeenBetween(4 sayings)"))
        self.assertTrue("late" in seen and "b" in seen)
        for value in (*NO_NAMES, "c", "lat"):
            self.assertFalse(value in seen)
        seen.sayings().clear()
        self.assertEqual(seen.sayings(), told)
        self.assertIsNone(seen.unsay("eightish"))
        seen.unsay(name="late")
        self.assertEqual(seen.sayings(), told[2:])
        for wrong in (*NO_NAMES, "late", "c"):
            self.fails(UnknownName, (wrong,), seen.unsay, wrong)

    def test_wrong_names(self):
        seen = SeenBetween(Closed([flip()], [8]))
        for wrong in NO_NAMES:
            self.fails(InvalidName, (wrong,), seen.say, wrong, 0, 0, 1)
            self.fails(InvalidName, (wrong,), seen.say_crossing, wrong, 0, 0, (0, 0))
            self.fails(InvalidName, (wrong,), seen.say, wrong, None, 9)
            self.fails(InvalidName, (wrong,), seen.say_crossing, wrong, None, 9)
        seen.say("a", 0, 0, 1)
        for call in (seen.say, seen.say_crossing):
            self.fails(DuplicateName, ("a",), call, "a", 0, 0)
        self.assertEqual(seen.sayings(), [("a", "cell", 0, 0, (1,))])

    def test_twelve_sayings(self):
        seen = SeenBetween(Closed([same(2)], [3]))
        say_some(random.Random(2), seen, 12)
        for call in (seen.say, seen.say_crossing):
            self.fails(TooMany, ("sayings", 13), call, "m", 0, 0, 1)
            self.fails(DuplicateName, ("c",), call, "c", None, 0)
            self.fails(InvalidName, (1,), call, 1, None, 0)
        seen.unsay("c")
        for call in (seen.say, seen.say_crossing):
            self.fails(InvalidSaying, (), call, "m", None, 0)
        seen.say_crossing("m", 0, 0, (0, 0))
        self.assertEqual(len(seen), 12)

    def test_wrong_sayings_about_cells(self):
        seen = SeenBetween(Closed([same(2), same(3)], [2, 1]))
        for wrong in (*NO_NUMBERS, -1, 3, 9999):
            self.fails(InvalidSaying, (), seen.say, "a", wrong, 0, 1)
            self.fails(InvalidSaying, (), seen.say, "a", wrong, 0, 0)
        for wrong in (*NO_NUMBERS, 5, -5):
            self.fails(InvalidSaying, (), seen.say, "a", 0, wrong, 1)
        for wrong in (*NO_NUMBERS, -1, 2, 3):
            self.fails(InvalidSaying, (), seen.say, "a", 1, 0, wrong)
            self.fails(InvalidSaying, (), seen.say, "a", 1, 0, 1, 0, wrong)
        self.fails(InvalidSaying, (), seen.say, "a", 2, 0, 3)
        self.fails(InvalidSaying, (), seen.say, "a", 0, 0)
        self.assertEqual(seen.sayings(), [])
        seen.say("a", 2, 0, 2)
        self.assertEqual(seen.share, Ratio(1, 3))

    def test_wrong_sayings_about_crossings(self):
        seen = SeenBetween(Closed([flip()], [8]))
        for wrong in (*NO_NUMBERS, -1, 2, 9999):
            self.fails(InvalidSaying, (), seen.say_crossing, "a", wrong, 0, (0, 0))
        # there is no step from the last tick on
        for wrong in (*NO_NUMBERS, 4, 5, -5):
            self.fails(InvalidSaying, (), seen.say_crossing, "a", 0, wrong, (0, 0))
        # at the left wall lambda is 0, at the right one rho is
        for wrong in (*NO_PAIRS, (1, 0), (0, 4)):
            self.fails(InvalidSaying, (), seen.say_crossing, "a", 0, 0, wrong)
            self.fails(InvalidSaying, (), seen.say_crossing, "a", 0, 0, (0, 3), wrong)
        for wrong in (*NO_PAIRS, (0, 1), (4, 0)):
            self.fails(InvalidSaying, (), seen.say_crossing, "a", 1, 0, wrong)
        self.fails(InvalidSaying, (), seen.say_crossing, "a", 0, 0)
        self.assertEqual(seen.sayings(), [])
        seen.say_crossing("a", 0, 3, (0, 3))
        seen.say_crossing(LETTERS[1], 1, -4, (3, 0), (0, 0), (2, 0), (1, 0), (0, 0))
        self.assertEqual(seen.sayings()[1][4], ((0, 0), (1, 0), (2, 0), (3, 0)))
        self.assertEqual(len(seen), 2)

    def test_signs_in_any_order(self):
        seen = SeenBetween(Closed([same(16)], [2]))
        seen.say("a", 0, 0, 8, 1, 15, 9, 8)
        self.assertEqual(seen.sayings(), [("a", "cell", 0, 0, (1, 8, 9, 15))])
        self.assertEqual((seen.possible(0), seen.share), ([1, 8, 9, 15], Ratio(1, 4)))


class Counting(Case):
    def test_as_a_plain_search_says(self):
        chance = random.Random(3)
        empty = 0
        for floor in FLOORS:
            words = all_words_of(floor)
            told = {tick: {word: history(floor, word, tick) for word in words} for tick in (-4, 0, 3)}
            for many in (0, 1, 1, 2, 3, 5):
                seen = SeenBetween(floor)
                say_some(chance, seen, many)
                for tick, histories in told.items():
                    good = [
                        word for word in words
                        if all(is_kept(floor, histories[word], saying) for saying in seen.sayings())
                    ]
                    empty += not good
                    self.assertEqual(seen.good_words(tick), good)
                    self.assertEqual((seen.ways(), seen.stands()), (len(good), bool(good)))
                    self.assertEqual(seen.share, Ratio(len(good), len(words)))
                    for cell in range(floor.cells):
                        self.assertEqual(seen.possible(cell, tick), sorted({word[cell] for word in good}))
                    for seam in range(len(floor) - 1):
                        pairs = sorted({crossing(floor, word, seam) for word in good})
                        self.assertEqual(seen.possible_crossings(seam, tick), pairs)
        self.assertGreater(empty, 5)

    def test_the_first_saying_that_clashes(self):
        chance = random.Random(4)
        found = []
        for floor in FLOORS[:4]:
            for _ in range(12):
                seen, prefix = SeenBetween(floor), SeenBetween(floor)
                say_some(chance, seen, 6)
                clashing = None
                for name, kind, at, tick, told in seen.sayings():
                    (prefix.say if kind == "cell" else prefix.say_crossing)(name, at, tick, *told)
                    if not prefix.stands():
                        clashing = name
                        break
                self.assertEqual(seen.clashing(), clashing)
                found.append(clashing)
                if clashing is None:
                    self.assertIsNone(seen.require())
                else:
                    self.fails(CantStand, (clashing,), seen.require)
        self.assertGreater(len(set(found)), 4)
        self.assertIn(None, found)

    def test_the_crossings_that_can_be(self):
        seen = SeenBetween(Closed([flip()], [8]))
        self.assertEqual(seen.possible_crossings(0), [(0, rho) for rho in range(4)])
        self.assertEqual(seen.possible_crossings(seam=1, tick=3), [(left, 0) for left in range(4)])
        seen.say_crossing("a", 0, 2, (0, 1), (0, 3))
        self.assertEqual((seen.possible_crossings(0, 2), seen.share), ([(0, 1), (0, 3)], Ratio(1, 2)))

    def test_defaults_and_names(self):
        seen = SeenBetween(Closed([flip()], [8]))
        seen.say("a", 3, 0, 1)
        self.assertEqual(seen.good_words(), seen.good_words(tick=0))
        self.assertEqual((seen.possible(3), seen.possible(cell=3, tick=0)), ([1], [1]))
        self.assertEqual(len(seen.good_words(4)), 128)
        self.assertEqual(seen.good_words(4), sorted(seen.good_words(4)))

    def test_wrong_questions(self):
        seen = SeenBetween(Closed([same(2), same(3)], [2, 1]))
        for wrong in (*NO_NUMBERS, 5, -5):
            self.fails(InvalidNumber, (wrong,), seen.good_words, wrong)
            self.fails(InvalidNumber, (wrong,), seen.possible, 0, wrong)
        for wrong in (*NO_NUMBERS, 4, -5):
            self.fails(InvalidNumber, (wrong,), seen.possible_crossings, 0, wrong)
        for wrong in (*NO_NUMBERS, -1, 3):
            self.fails(InvalidNumber, (wrong,), seen.possible, wrong)
            self.fails(InvalidNumber, (wrong,), seen.possible, wrong, 9)
            self.fails(InvalidNumber, (wrong,), seen.possible_crossings, wrong)
            self.fails(InvalidNumber, (wrong,), seen.possible_crossings, wrong, 4)
        self.assertEqual((seen.possible(2, 4), seen.possible_crossings(2, -4)), ([0, 1, 2], [(0, 0)]))


class Limits(Case):
    def test_words(self):
        self.assertEqual(SeenBetween(Closed([same(4)], [4])).ways(), 256)
        self.fails(TooMany, ("seen", 257 + 255), SeenBetween, Closed([same(2)], [9]))
        self.fails(TooMany, ("seen", 288), SeenBetween, Closed([same(2), same(3)], [5, 2]))
        self.assertEqual(SeenBetween(Closed([wall()], [400])).ways(), 1)
        self.assertEqual(SeenBetween(floor=Closed([same(16)], [2])).share, Ratio(1))
        self.fails(TooMany, ("seen", 2 ** 400), SeenBetween, Closed([same(2)], [400]))

    def test_twins_that_are_led_apart(self):
        floor = Closed([flip()], [8], edits=[swap_signs(Closed([flip()], [8]).ground, 3, 0, 1)])
        seen = SeenBetween(floor)
        seen.say("a", 0, 0, 1)
        seen.say_crossing("b", 0, 1, (0, 1))
        twin = seen.twin()
        self.assertIs(type(twin), SeenBetween)
        self.assertIs(twin.floor, floor)
        self.assertEqual((twin.sayings(), twin.good_words(2)), (seen.sayings(), seen.good_words(2)))
        share = seen.share
        twin.unsay("a")
        twin.say("c", 1, 0, 1)
        self.assertEqual((len(seen.sayings()), seen.share, "a" in seen, "a" in twin), (2, share, True, False))
        seen.unsay("b")
        self.assertEqual((len(twin), repr(twin), repr(seen)), (2, "SeenBetween(2 sayings)", "SeenBetween(1 sayings)"))
        self.assertEqual(twin.twin().possible_crossings(0, 1), [(0, 1)])


if __name__ == "__main__":
    unittest.main()
