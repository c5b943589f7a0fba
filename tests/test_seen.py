"""Seen sets: points [38] and [39] and the interface of borderflow/seen.py."""

import itertools
import random
import unittest

from borderflow.errors import (
    CantStand, DuplicateName, InvalidName, InvalidNumber, InvalidSaying, TooMany, UnknownName, UnlikeMachines,
)
from borderflow.machines import Machine, move, same, wall
from borderflow.ratios import Ratio
from borderflow.rows import Row
from borderflow.rules import Rule
from borderflow.seen import Seen
from tests.cases import Case
from tests.known import carry, flip, third

NO_NUMBERS = (None, True, False, "1", "", (), [], (1,), [1], Ratio(1))
NO_NAMES = (
    None, True, 0, "", "A", "aB", "a1", "a b", " a", "a_b", "ninechars", "abcdefghi", "\n", "a\n", (), [], ("a",), ["a"],
    Ratio(1), Row((0,)),
)
TWELVE = "abcdefghijkl"


def stepped(machine, row, count):
    """A row so many ticks later, earlier if the count is below 0."""
    for _ in range(abs(count)):
        row = machine.step(row) if count > 0 else machine.unstep(row)
    return row


def keeps(seen, row, tick):
    """Whether the history with a row at a tick keeps all sayings."""
    return all(stepped(seen.machine, row, t - tick)[cell] in signs for _, cell, t, signs in seen.sayings())


def plain_stretch(seen, tick):
    """The hull of the pulled stretches, by the words of point [39]."""
    cells = []
    for _, cell, t, _ in seen.sayings():
        k = t - tick
        rule = seen.machine.rule if k >= 0 else seen.machine.back
        cells += [cell + abs(k) * rule.low, cell + abs(k) * rule.high + 1]
    return (min(cells), max(cells)) if cells else (0, 0)


def good_words(seen, tick):
    first, end = plain_stretch(seen, tick)
    words = itertools.product(range(seen.machine.signs), repeat=end - first)
    return [word for word in words if keeps(seen, Row((0,), word, (0,), start=first), tick)]


def some_seen(chance, machine, many, farthest, latest):
    seen = Seen(machine)
    for at in range(many):
        signs = [chance.randrange(machine.signs) for _ in range(chance.randint(1, max(1, machine.signs - 1)))]
        seen.say(TWELVE[at], chance.randint(-farthest, farthest), chance.randint(-latest, latest), *signs)
    return seen


def small_sets():
    """Seen sets whose words are few, with the ticks at which they are."""
    chance = random.Random(1)
    machines = [flip(), flip() >> 1, carry(), ~carry(), third(), move(3, 1), same(2), Machine(Rule(2, 0, 0, (1, 0)))]
    found = []
    for _ in range(160):
        machine = chance.choice(machines)
        seen = some_seen(chance, machine, chance.randint(0, 4), 2, 2)
        for tick in (-2, -1, 0, 1, 2):
            first, end = plain_stretch(seen, tick)
            if machine.signs ** (end - first) <= 600:
                found.append((seen, tick))
    return found


class Sayings(Case):
    def test_a_new_set(self):
        for seen in (Seen(carry()), Seen(machine=carry())):
            self.assertEqual((seen.machine, seen.sayings(), len(seen), repr(seen)), (carry(), [], 0, "Seen(0 sayings)"))
            self.assertTrue(bool(seen))
            self.assertFalse("a" in seen)

    def test_said_in_order(self):
        seen = Seen(carry())
        self.assertIsNone(seen.say("late", 3, -2, 2, 0, 3, 0))
        seen.say("a", -20, 4, 1)
        seen.say("eightish", 20, -4, 3, 2, 1, 0)
        told = [("late", 3, -2, (0, 2, 3)), ("a", -20, 4, (1,)), ("eightish", 20, -4, (0, 1, 2, 3))]
        self.assertEqual(seen.sayings(), told)
        self.assertEqual((len(seen), repr(seen)), (3, "Seen(3 sayings)"))
        self.assertTrue("a" in seen and "late" in seen)
        for value in (*NO_NAMES, "b", "lat", ("late", 3, -2, (0, 2, 3))):
            self.assertFalse(value in seen)
        seen.sayings().clear()
        self.assertEqual(seen.sayings(), told)

    def test_unsaid(self):
        seen = Seen(carry())
        seen.say("a", 0, 0, 1)
        seen.say("b", 1, 0, 1)
        seen.say("c", 2, 0, 1)
        for wrong in (*NO_NAMES, "d", "ab"):
            self.fails(UnknownName, (wrong,), seen.unsay, wrong)
        self.assertIsNone(seen.unsay("b"))
        self.assertEqual(seen.sayings(), [("a", 0, 0, (1,)), ("c", 2, 0, (1,))])
        self.fails(UnknownName, ("b",), seen.unsay, "b")
        seen.say("b", 5, 1, 2)
        seen.unsay(name="a")
        self.assertEqual(seen.sayings(), [("c", 2, 0, (1,)), ("b", 5, 1, (2,))])

    def test_wrong_names(self):
        seen = Seen(carry())
        for wrong in NO_NAMES:
            self.fails(InvalidName, (wrong,), seen.say, wrong, 0, 0, 1)
            self.fails(InvalidName, (wrong,), seen.say, wrong, None, 9)
        seen.say("a", 0, 0, 1)
        self.fails(DuplicateName, ("a",), seen.say, "a", 1, 1, 2)
        self.fails(DuplicateName, ("a",), seen.say, "a", 99, None)
        self.assertEqual(seen.sayings(), [("a", 0, 0, (1,))])
        for name in ("z", "zz", "abcdefgh"):
            seen.say(name, 0, 0, 1)

    def test_wrong_sayings(self):
        seen = Seen(carry())
        for wrong in (*NO_NUMBERS, 21, -21, 9999):
            self.fails(InvalidSaying, (), seen.say, "a", wrong, 0, 1)
        for wrong in (*NO_NUMBERS, 5, -5):
            self.fails(InvalidSaying, (), seen.say, "a", 0, wrong, 1)
        for wrong in (*NO_NUMBERS, 4, -1, 64):
            self.fails(InvalidSaying, (), seen.say, "a", 0, 0, wrong)
            self.fails(InvalidSaying, (), seen.say, "a", 0, 0, 1, 2, wrong)
        self.fails(InvalidSaying, (), seen.say, "a", 0, 0)
        self.assertEqual(seen.sayings(), [])

    def test_signs_in_any_order(self):
        seen = Seen(same(16))
        seen.say("a", 0, 0, 8, 1, 15, 9, 8)
        self.assertEqual(seen.sayings(), [("a", 0, 0, (1, 8, 9, 15))])
        self.assertEqual((seen.possible(0), seen.share), ([1, 8, 9, 15], Ratio(1, 4)))

    def test_twelve_sayings(self):
        seen = some_seen(random.Random(2), same(3), 12, 20, 4)
        self.assertEqual((len(seen), repr(seen)), (12, "Seen(12 sayings)"))
        self.fails(TooMany, ("sayings", 13), seen.say, "m", 0, 0, 1)
        self.fails(TooMany, ("sayings", 13), seen.say, "m", None, 0)
        self.fails(DuplicateName, ("c",), seen.say, "c", None, 0)
        self.fails(InvalidName, ("C",), seen.say, "C", None, 0)
        seen.unsay("c")
        self.fails(InvalidSaying, (), seen.say, "m", None, 0)
        seen.say("m", 0, 0, 1)
        self.assertEqual(seen.sayings()[-1], ("m", 0, 0, (1,)))


class Counting(Case):
    def test_as_a_plain_search_says(self):
        found = small_sets()
        self.assertGreater(len(found), 200)
        self.assertGreater(len([1 for seen, _ in found if not seen.stands()]), 20)
        for seen, tick in found:
            first, end = plain_stretch(seen, tick)
            good = good_words(seen, tick)
            self.assertEqual(seen.stretch(tick), (first, end))
            self.assertEqual(seen.ways(tick), len(good))
            self.assertEqual(seen.share_at(tick), Ratio(len(good), seen.machine.signs ** (end - first)))
            self.assertEqual(seen.share, seen.share_at(tick))
            self.assertIs(seen.stands(tick), len(good) > 0)

    def test_possible_signs_and_rows(self):
        for seen, tick in small_sets()[::3]:
            first, end = plain_stretch(seen, tick)
            good = good_words(seen, tick)
            for cell in range(first - 2, end + 2):
                told = list(range(seen.machine.signs)) if good else []
                if first <= cell < end:
                    told = sorted({word[cell - first] for word in good})
                self.assertEqual(seen.possible(cell, tick), told)
                self.assertEqual(seen.sure(cell, tick), told[0] if len(told) == 1 else None)
                for sign in range(seen.machine.signs):
                    row = seen.row_with(cell, sign, tick)
                    if sign in told:
                        self.assertIs(type(row), Row)
                        self.assertEqual(row[cell], sign)
                        self.assertIsNone(row.strange(seen.machine.signs))
                        self.assertTrue(keeps(seen, row, tick))
                    else:
                        self.assertIsNone(row)

    def test_the_first_saying_that_clashes(self):
        for seen, tick in small_sets():
            prefix, clashing = Seen(seen.machine), None
            for name, cell, t, signs in seen.sayings():
                prefix.say(name, cell, t, *signs)
                if not prefix.stands():
                    clashing = name
                    break
            self.assertEqual(seen.clashing(tick), clashing)
            if clashing is None:
                self.assertIsNone(seen.require(tick))
            else:
                self.fails(CantStand, (clashing,), seen.require, tick)

    def test_without_sayings(self):
        for machine in (carry(), flip(), wall()):
            seen = Seen(machine)
            for tick in range(-4, 5):
                self.assertEqual((seen.stretch(tick), seen.ways(tick), seen.share_at(tick)), ((0, 0), 1, Ratio(1)))
                self.assertEqual((seen.stands(tick), seen.clashing(tick)), (True, None))
                self.assertEqual(seen.possible(20, tick), list(range(machine.signs)))
                self.assertEqual(seen.sure(-20, tick), 0 if machine.signs == 1 else None)
                self.assertEqual(seen.row_with(7, machine.signs - 1, tick)[7], machine.signs - 1)
                self.assertIsNone(seen.require(tick))
            self.assertEqual(seen.share, Ratio(1))

    def test_sayings_that_contradict_one_another(self):
        seen = Seen(carry())
        # the p of a cell comes from its left neighbour
        seen.say("first", 0, 0, 2, 3)
        seen.say("far", 9, -3, 1)
        seen.say("next", 1, 1, 0, 1)
        seen.say("last", 1, 1, 2)
        for tick in (-4, -3, -2, -1, 0, 1, 2):
            self.assertEqual((seen.stands(tick), seen.clashing(tick), seen.ways(tick)), (False, "next", 0))
            self.assertEqual((seen.possible(0, tick), seen.possible(15, tick), seen.sure(0, tick)), ([], [], None))
            self.assertIsNone(seen.row_with(0, 2, tick))
            self.fails(CantStand, ("next",), seen.require, tick)
        self.assertEqual(seen.share, Ratio(0))
        seen.unsay("next")
        self.assertEqual((seen.stands(), seen.clashing(), seen.share), (True, None, Ratio(1, 16)))

    def test_what_follows_from_a_saying(self):
        seen = Seen(carry())
        seen.say("a", 4, 2, 3, 2)
        self.assertEqual(seen.possible(2), [2, 3])
        self.assertEqual(seen.possible(cell=2, tick=0), [2, 3])
        self.assertEqual(seen.possible(6, 4), [2, 3])
        self.assertIsNone(seen.sure(2))
        seen.say("b", 3, 1, 3)
        self.assertEqual((seen.sure(3, 1), seen.sure(cell=3, tick=1), seen.sure(2, 0)), (3, 3, None))
        self.assertEqual(seen.share, Ratio(1, 4))


class Far(Case):
    def test_told_stretches_of_more_than_40_cells(self):
        seen = Seen(flip())
        for at, cell in enumerate((-20, -13, -6, 1, 8, 20)):
            seen.say(TWELVE[at], cell, 0, at % 2)
        self.assertEqual((seen.stretch(), seen.ways(), seen.share), ((-20, 21), 2 ** 35, Ratio(1, 64)))
        # at other ticks the windows are wider, but the share is the same
        for tick in (-3, -2, -1, 1, 2, 3):
            wide = 3 * abs(tick)
            self.assertEqual(seen.stretch(tick), (-20 - abs(tick), 21 + wide - abs(tick)))
            self.assertEqual(seen.ways(tick), 2 ** (35 + wide))
            self.assertEqual(seen.share_at(tick=tick), Ratio(1, 64))

    def test_shares_of_far_sayings_multiply(self):
        chance = random.Random(3)
        for machine in (flip(), carry(), third(), move(4, 1)):
            for _ in range(8):
                one, other = some_seen(chance, machine, 3, 3, 1), Seen(machine)
                whole = Seen(machine)
                for name, cell, tick, signs in one.sayings():
                    whole.say(name, cell - 16, tick, *signs)
                for at in range(2):
                    signs = [chance.randrange(machine.signs) for _ in range(2)]
                    cell, tick = chance.randint(-3, 3), chance.randint(-1, 1)
                    other.say(TWELVE[at + 4], cell, tick, *signs)
                    whole.say(TWELVE[at + 4], cell + 16, tick, *signs)
                share = one.share * other.share
                for tick in (-1, 0, 1):
                    first, end = whole.stretch(tick)
                    self.assertEqual(whole.share_at(tick), share)
                    self.assertEqual(whole.ways(tick) * share.bottom, share.top * machine.signs ** (end - first))

    def test_every_tick(self):
        seen = Seen(same(3))
        for at, tick in enumerate(range(-4, 5)):
            seen.say(TWELVE[at], 5 * at - 20, tick, 0, 2)
        for tick in range(-4, 5):
            self.assertEqual(seen.stretch(tick=tick), (-20, 21))
            self.assertEqual(seen.ways(tick=tick), 2 ** 9 * 3 ** 32)
            self.assertEqual(seen.share_at(tick), Ratio(2 ** 9, 3 ** 9))
            self.assertEqual((seen.possible(5, tick), seen.possible(6, tick)), ([0, 2], [0, 1, 2]))

    def test_moves(self):
        seen = Seen(move(2, 1))
        for at, tick in enumerate(range(-4, 5)):
            seen.say(TWELVE[at], tick, tick, 1)
        for tick in range(-4, 5):
            self.assertEqual((seen.stretch(tick), seen.ways(tick), seen.share_at(tick)), ((tick, tick + 1), 1, Ratio(1, 2)))
            self.assertEqual((seen.sure(tick, tick), seen.sure(tick + 1, tick)), (1, None))
        seen.say("z", -4, -4, 0)
        self.assertEqual(seen.clashing(3), "z")

    def test_twelve_wide_sayings(self):
        # each of them is told by ten cells
        seen = Seen(flip())
        for at in range(12):
            seen.say(TWELVE[at], 3 * at - 20, 3 if at % 2 else -3, at // 2 % 2)
        first, end = seen.stretch()
        self.assertGreater(end - first, 40)
        self.assertEqual(seen.share_at(0) * Ratio(2 ** (end - first)), Ratio(seen.ways()))
        self.assertTrue(0 < seen.ways() < 2 ** (end - first))
        self.assertEqual(seen.stands(), True)
        for cell in (-20, 0, 20):
            for sign in (0, 1):
                row = seen.row_with(cell, sign)
                self.assertEqual(row is not None, sign in seen.possible(cell))
                if row is not None:
                    self.assertTrue(keeps(seen, row, 0) and row[cell] == sign)

    def test_cells_far_from_the_told_stretch(self):
        seen = Seen(flip())
        seen.say("a", 20, 0, 1)
        row = seen.row_with(-20, 1)
        self.assertEqual((row[-20], row[20]), (1, 1))
        row = seen.row_with(cell=-20, sign=0, tick=1)
        self.assertEqual((row[-20], stepped(flip(), row, -1)[20]), (0, 1))
        self.assertEqual((seen.possible(-20), seen.sure(-20), seen.sure(20)), ([0, 1], None, 1))


class Limits(Case):
    def test_pulled_widths(self):
        # Flip looks at 3k + 1 cells for k ticks: 10 for three, 13 for four
        seen = Seen(flip())
        seen.say("a", 0, 3, 1)
        self.assertEqual(seen.stretch(), (-3, 7))
        self.assertEqual(seen.share, Ratio(1, 2))
        calls = [
            lambda tick: seen.stretch(tick), lambda tick: seen.ways(tick), lambda tick: seen.share_at(tick),
            lambda tick: seen.stands(tick), lambda tick: seen.clashing(tick), lambda tick: seen.possible(0, tick),
            lambda tick: seen.sure(0, tick), lambda tick: seen.row_with(0, 1, tick), lambda tick: seen.require(tick),
            lambda tick: seen.row_with(0, 2, tick),
        ]
        for call in calls:
            call(0)
            call(4)
            self.fails(TooMany, ("table", 2 ** 13), call, -1)
            self.fails(TooMany, ("table", 2 ** 22), call, -4)
            for wrong in (*NO_NUMBERS, 5, -5):
                self.fails(InvalidNumber, (wrong,), call, wrong)

    def test_the_property(self):
        seen = Seen(flip())
        seen.say("a", 0, 4, 1)
        with self.assertRaises(TooMany) as caught:
            seen.share
        self.shows(TooMany, ("table", 2 ** 13), caught.exception)
        self.assertEqual(seen.share_at(1), Ratio(1, 2))

    def test_the_first_saying_in_order(self):
        seen = Seen(flip())
        seen.say("a", 0, -2, 1)
        seen.say("b", 20, 2, 1)
        seen.say("c", 0, 4, 1)
        seen.say("d", 0, -4, 1)
        self.fails(TooMany, ("table", 2 ** 13), seen.ways)
        self.fails(TooMany, ("table", 2 ** 16), seen.ways, 3)
        self.fails(TooMany, ("table", 2 ** 19), seen.ways, 4)
        self.fails(TooMany, ("table", 2 ** 13), seen.ways, -2)
        self.fails(TooMany, ("table", 2 ** 19), seen.clashing, -4)
        # also if the sayings ahead of it clash
        seen.say("e", 0, -2, 0)
        self.fails(TooMany, ("table", 2 ** 13), seen.clashing)

    def test_at_the_bound(self):
        # Carry looks at k + 1 cells: six of them have 4096 words
        seen = Seen(carry())
        seen.say("a", 0, 1, 1)
        self.assertEqual(seen.stretch(-4), (-5, 1))
        self.assertEqual(seen.share_at(-4), Ratio(1, 4))
        seen.say("b", 0, 2, 1)
        self.fails(TooMany, ("table", 4 ** 7), seen.stretch, -4)
        back = Seen(carry())
        back.say("a", 0, -1, 1)
        self.assertEqual(back.stretch(4), (0, 6))
        back.say("b", 0, -2, 1)
        self.fails(TooMany, ("table", 4 ** 7), back.stretch, 4)

    def test_signs_that_the_machine_does_not_have(self):
        seen = Seen(carry())
        for wrong in (*NO_NUMBERS, 4, -1, 64):
            self.assertIsNone(seen.row_with(0, wrong))
        self.fails(InvalidNumber, (9,), seen.row_with, 0, 4, 9)


class Sums(Case):
    def test_sums(self):
        one, other = Seen(carry()), Seen(Machine(carry().rule))
        one.say("a", 0, 0, 1)
        one.say("b", 3, 1, 2)
        other.say("z", 3, 1, 3)
        other.say("c", 3, 1, 2)
        total = one + other
        self.assertIs(type(total), Seen)
        self.assertEqual(total.sayings(), one.sayings() + other.sayings())
        self.assertEqual((total.machine, len(one), len(other), len(total)), (carry(), 2, 2, 4))
        self.assertEqual((total.clashing(), one.clashing(), other.clashing()), ("z", None, "c"))
        total.unsay("a")
        one.say("y", 0, 0, 1)
        self.assertEqual((len(total), len(one)), (3, 3))
        self.assertEqual((one + Seen(carry())).sayings(), one.sayings())

    def test_sums_that_can_not_be(self):
        one, other = Seen(carry()), Seen(flip())
        one.say("a", 0, 0, 1)
        other.say("a", 0, 0, 1)
        self.fails(UnlikeMachines, (), lambda: one + other)
        twelve = some_seen(random.Random(4), carry(), 12, 9, 1)
        self.fails(DuplicateName, ("a",), lambda: one + twelve)
        self.fails(DuplicateName, ("a",), lambda: twelve + one)
        self.fails(DuplicateName, ("a",), lambda: twelve + twelve)
        other = Seen(carry())
        other.say("y", 0, 0, 1)
        other.say("c", 0, 0, 1)
        other.say("b", 0, 0, 1)
        self.fails(DuplicateName, ("c",), lambda: twelve + other)
        other.unsay("c")
        other.unsay("b")
        self.fails(TooMany, ("sayings", 13), lambda: twelve + other)
        self.fails(TooMany, ("sayings", 13), lambda: other + twelve)
        self.assertEqual((len(twelve), len(other)), (12, 1))
        twelve.unsay("d")
        self.assertEqual(len(other + twelve), 12)

    def test_twins(self):
        seen = Seen(carry())
        seen.say("a", 0, 0, 1)
        twin = seen.twin()
        self.assertIs(type(twin), Seen)
        self.assertEqual(twin, seen)
        twin.say("b", 0, 0, 1)
        seen.unsay("a")
        self.assertEqual((seen.sayings(), len(twin), twin.machine), ([], 2, carry()))

    def test_equal(self):
        def made(machine, *sayings):
            seen = Seen(machine)
            for saying in sayings:
                seen.say(*saying)
            return seen

        one = made(carry(), ("a", 0, 0, 1, 2), ("b", 1, 0, 3))
        self.assertTrue(one == made(carry(), ("a", 0, 0, 2, 1, 2), ("b", 1, 0, 3)))
        self.assertTrue(Seen(flip()) == Seen(flip()))
        others = (
            made(carry(), ("b", 1, 0, 3), ("a", 0, 0, 1, 2)), made(carry(), ("a", 0, 0, 1, 2)),
            made(carry(), ("a", 0, 0, 1, 2), ("b", 1, 0, 3, 2)), made(~carry(), ("a", 0, 0, 1, 2), ("b", 1, 0, 3)),
            made(carry(), ("a", 0, 1, 1, 2), ("b", 1, 0, 3)), one.sayings(), None, 2, "a", carry(),
        )
        for other in others:
            self.assertFalse(one == other)
            self.assertTrue(one != other)


if __name__ == "__main__":
    unittest.main()
