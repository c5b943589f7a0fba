"""Papers: point [43] and the interface of borderflow/papers.py."""

import random
import unittest

from borderflow import papers
from borderflow.carrying import carry as carried_over
from borderflow.errors import InvalidNumber, InvalidWord, TooMany, UnlikeGrounds, UnlikeSigns
from borderflow.exchanges import Exchange, swap_signs
from borderflow.grounds import Ground
from borderflow.halves import halves
from borderflow.machines import Machine, known_machine, leads_back, move, same, wall
from borderflow.papers import (
    back_paper, carry_paper, flow_paper, is_right, loses_paper, lots_paper, seam_paper, unlike_paper,
)
from borderflow.ratios import Ratio
from borderflow.rows import Row
from borderflow.rules import Rule, move_rule, same_rule, sum_rule
from borderflow.seams import Seam
from borderflow.seen import Seen
from tests.cases import Case, some_rule
from tests.known import carry, flip, third

ANYTHING = (
    None, True, False, 0, 1, -1, "", "back", (), [], (None,), [None], ("back",), ["back"], ((),), Ratio(1), Row((0,)),
    same_rule(2), carry(), Exchange(Ground(2), 0, 0, (0,)), ("paper", 1), (0, 1), (("back",),),
)
MACHINES = (flip(), carry(), ~carry(), third(), move(3, 1), move(2, -2), same(4), wall())
TWO, FOUR = Ground(2), Ground(4)


def contradiction(machine=None):
    """A seen set that does not stand: the p of a cell of Carry comes from its left neighbour."""
    seen = Seen(carry())
    seen.say("a", 0, 0, 0, 1)
    seen.say("b", 5, 0, 1)
    seen.say("c", 1, 1, 2, 3)
    return seen


def right_papers():
    """A right paper of each kind."""
    swap = Exchange(FOUR, 0, 1, (2, 3, 0, 1))
    return {
        "back": back_paper(carry()),
        "loses": loses_paper(sum_rule(2, -1, 1)),
        "flow": flow_paper(carry(), (1, 2)),
        "seam": seam_paper(Seam(carry(), move(2, 1), matching=[1, 0, 2, 3, 5, 4, 6, 7])),
        "unlike": unlike_paper(carry().rule, same_rule(4)),
        "exchange": carry_paper(swap, carry()),
        "lots": lots_paper(contradiction()),
    }


def with_item(paper, at, item):
    return paper[:at] + (item,) + paper[at + 1:]


def is_through_and_through(value):
    """Whether all sequences within a value are tuples."""
    if isinstance(value, tuple):
        return all(is_through_and_through(item) for item in value)
    return not isinstance(value, list)


def listed(value):
    """A value with a list in the place of the first tuple within it that is deepest."""
    for at, item in enumerate(value):
        if isinstance(item, tuple):
            return value[:at] + (listed(item),) + value[at + 1:]
    return list(value)


class Right(Case):
    def test_a_right_paper_of_each_kind(self):
        for kind, paper in right_papers().items():
            self.assertIs(type(paper), tuple)
            self.assertEqual(paper[0], kind)
            self.assertTrue(is_through_and_through(paper))
            self.assertIs(is_right(paper), True, kind)
            self.assertIs(is_right(value=paper), True)

    def test_forms(self):
        told = right_papers()
        rule, back = carry().rule, carry().back
        self.assertEqual(told["back"], ("back", rule, back))
        self.assertEqual(told["loses"], ("loses", sum_rule(2, -1, 1), (0, 0, 0), (0, 1, 1)))
        self.assertEqual(told["flow"], ("flow", rule, back, (1, 2), tuple(halves(carry(), (1, 2), side="right")), Ratio(2)))
        matching = (1, 0, 2, 3, 5, 4, 6, 7)
        self.assertEqual(told["seam"], ("seam", rule, back, move_rule(2, 1), move_rule(2, -1), matching))
        self.assertEqual(told["unlike"], ("unlike", rule, same_rule(4), (0, 2)))
        swap = Exchange(FOUR, 0, 1, (2, 3, 0, 1))
        self.assertEqual(told["exchange"], ("exchange", rule, back, swap, carried_over(swap, carry())))
        sayings = ((0, 0, (0, 1)), (5, 0, (1,)), (1, 1, (2, 3)))
        self.assertEqual(told["lots"][:5], ("lots", rule, back, sayings, 0))

    def test_any_value(self):
        for value in ANYTHING:
            self.assertIs(is_right(value), False, value)

    def test_other_kinds_and_numbers_of_items(self):
        told = right_papers()
        for kind, paper in told.items():
            self.assertIs(is_right(list(paper)), False)
            self.assertIs(is_right(paper[:-1]), False)
            self.assertIs(is_right((*paper, None)), False)
            self.assertIs(is_right((*paper, paper[-1])), False)
            self.assertIs(is_right(paper[:1]), False)
            for other in told:
                self.assertIs(is_right(with_item(paper, 0, other)), other == kind, (kind, other))
            for wrong in (None, 0, "", kind.upper(), kind + " ", (kind,)):
                self.assertIs(is_right(with_item(paper, 0, wrong)), False)

    def test_each_item_of_another_kind(self):
        for kind, paper in right_papers().items():
            for at in range(1, len(paper)):
                for value in (*ANYTHING, *paper[1:at], *paper[at + 1:]):
                    if kind == "lots" and at == 4 and value == 0 and value is not False:
                        continue
                    if value == paper[at] and type(value) is type(paper[at]):
                        continue
                    self.assertIs(is_right(with_item(paper, at, value)), False, (kind, at, value))

    def test_a_list_in_the_place_of_a_tuple(self):
        for kind, paper in right_papers().items():
            for at in range(1, len(paper)):
                if isinstance(paper[at], tuple):
                    self.assertIs(is_right(with_item(paper, at, list(paper[at]))), False, (kind, at))
                    self.assertIs(is_right(with_item(paper, at, listed(paper[at]))), False, (kind, at))


class Back(Case):
    def test_backs(self):
        for machine in MACHINES:
            self.assertTrue(is_right(back_paper(machine)))
            self.assertTrue(is_right(back_paper(machine=~machine)))
            self.assertEqual(is_right(("back", machine.rule, machine.rule)), machine.rule == machine.back)
        self.assertFalse(is_right(("back", carry().rule, flip().rule)))
        self.assertFalse(is_right(("back", sum_rule(2, 0, 1), sum_rule(2, -1, 0))))
        self.assertFalse(is_right(("back", flip().rule, same_rule(2))))

    def test_limits(self):
        # the words of both windows count, the halves do not
        self.assertTrue(is_right(("back", move_rule(2, 99), move_rule(2, -99))))
        wide = flip() + flip().mirrored()
        self.assertEqual(wide.rule.width + wide.back.width - 1, 13)
        self.assertFalse(is_right(back_paper(wide)))
        signs = list(range(16))
        table = [here ^ 8 * (left % 2) for left in signs for here in signs]
        rule = Rule(16, -1, 0, table)
        self.assertTrue(leads_back(rule, rule))
        self.assertTrue(is_right(("back", rule, rule)))


class Loses(Case):
    def test_rings(self):
        chance = random.Random(1)
        found = 0
        for _ in range(120):
            rule = some_rule(chance)
            paper = loses_paper(rule)
            if paper is not None:
                found += 1
                self.assertTrue(is_right(paper))
                # they need not be the least pair
                self.assertTrue(is_right(("loses", rule, paper[3], paper[2])))
                self.assertTrue(is_right(("loses", rule, paper[2] * 2, paper[3] * 2)))
                self.assertFalse(is_right(("loses", rule, paper[2], paper[2])))
                self.assertFalse(is_right(("loses", rule, paper[2], paper[3] * 2)))
        self.assertGreater(found, 40)

    def test_nothing_lost(self):
        for machine in MACHINES:
            self.assertIsNone(loses_paper(machine.rule))
        self.assertIsNone(loses_paper(rule=carry().rule))

    def test_limits(self):
        wide = sum_rule(2, 0, 8)
        self.fails(TooMany, ("pairs", 2 ** 16), loses_paper, wide)
        self.assertTrue(is_right(("loses", wide, (0, 0, 0), (0, 1, 1))))
        self.assertTrue(is_right(("loses", sum_rule(2, 0, 1), (0,) * 5000, (1,) * 5000)))


class Flow(Case):
    def test_flows(self):
        for machine in MACHINES:
            context = (0,) * (2 * machine.reach)
            paper = flow_paper(machine=machine, context=context)
            self.assertTrue(is_right(paper))
            self.assertEqual(paper[5], machine.flow)
            self.assertEqual(len(paper[4]), machine.right)
        self.assertTrue(is_right(flow_paper(carry(), (3, 0))))

    def test_wrong_contexts(self):
        for wrong in (None, [], [0, 0], (), (0,), (0, 0, 0), (0, 4), (0, True), "00", 0):
            self.fails(InvalidWord, (wrong,), flow_paper, carry(), wrong)
            self.assertFalse(is_right(with_item(flow_paper(carry(), (0, 0)), 3, wrong)))

    def test_halves_that_are_changed(self):
        paper = flow_paper(carry(), (0, 0))
        told = paper[4]
        self.assertGreater(len(told), 4)
        wrong = (
            told[1:], told[:-1], told[::-1], told + told[-1:], told[1:2] + told[:1] + told[2:], told[:1] + told, (),
            tuple(list(word) for word in told), list(told), told[:-1] + ((3, 4),), told[:-1] + ((3,),),
        )
        for value in wrong:
            self.assertFalse(is_right(with_item(paper, 4, value)))
        # halves for another context, and True in the place of 1
        flips = flow_paper(flip(), (0, 0, 0, 0))
        self.assertFalse(is_right(with_item(flips, 4, flow_paper(flip(), (1, 0, 0, 0))[4])))
        self.assertTrue(is_right(with_item(with_item(flips, 3, (1, 0, 0, 0)), 4, flow_paper(flip(), (1, 0, 0, 0))[4])))
        ones = tuple(tuple(bool(sign) for sign in word) for word in flips[4])
        self.assertEqual(ones, flips[4])
        self.assertFalse(is_right(with_item(flips, 4, ones)))
        self.assertFalse(is_right(with_item(flips, 3, (False, 0, 0, 0))))

    def test_wrong_flows(self):
        for machine in (carry(), flip()):
            paper = flow_paper(machine, (0,) * (2 * machine.reach))
            for wrong in (Ratio(1, 2), Ratio(3), Ratio(0), 1, 2, "2", None, True, (2, 1)):
                self.assertFalse(is_right(with_item(paper, 5, wrong)))

    def test_limits(self):
        # a move by five cells leads back, but it has too many halves
        rule, back = move_rule(2, 5), move_rule(2, -5)
        words = tuple(sorted(all_words(10)))
        self.assertFalse(is_right(("flow", rule, back, (0,) * 10, words, Ratio(32))))
        four = known_machine(move_rule(2, 4), move_rule(2, -4))
        self.assertTrue(is_right(flow_paper(four, (0,) * 8)))
        wide = flip() + flip().mirrored()
        self.assertFalse(is_right(flow_paper(wide, (0,) * 6)))


def all_words(length):
    return [tuple(index >> place & 1 for place in range(length)) for index in range(2 ** length)]


class Seams(Case):
    def test_seams(self):
        for one, other in (
            (carry(), move(2, 1)), (flip(), same(3)), (wall(), wall()), (third(), third()), (flip(), wall()),
        ):
            self.assertTrue(is_right(seam_paper(seam=Seam(one, other))))

    def test_wrong_seams(self):
        paper = right_papers()["seam"]
        self.assertFalse(is_right(("seam", *paper[3:5], *paper[1:3])))
        self.assertTrue(is_right(("seam", *paper[3:5], *paper[1:3], tuple(range(2 ** 3)))))
        for matching in (
            tuple(range(7)), tuple(range(9)), (0,) * 8, (1, 2, 3, 4, 5, 6, 7, 8), (True, 0, 2, 3, 5, 4, 6, 7), None, (),
            (-1, 0, 2, 3, 5, 4, 6, 7), list(range(8)),
        ):
            self.assertFalse(is_right(with_item(paper, 5, matching)), matching)
        # unlike flows, and rules that do not lead back
        one, two = carry(), same(4)
        size = one.left * two.right
        self.assertFalse(is_right(("seam", one.rule, one.back, two.rule, two.back, tuple(range(size)))))
        self.assertFalse(is_right(("seam", one.rule, one.rule, *paper[3:])))
        self.assertFalse(is_right(("seam", *paper[1:3], move_rule(2, 1), move_rule(2, 1), paper[5])))
        self.assertFalse(is_right(("seam", *paper[1:3], move_rule(2, 1), move_rule(3, -1), paper[5])))

    def test_limits(self):
        rule, back = move_rule(2, 5), move_rule(2, -5)
        self.assertFalse(is_right(("seam", rule, back, rule, back, tuple(range(1024)))))
        four = Seam(move(2, 4), move(4, 2))
        self.assertEqual(four.size, 256)
        self.assertTrue(is_right(seam_paper(four)))
        wide = flip() + flip().mirrored()
        self.assertFalse(is_right(seam_paper(Seam(wide, same(2)))))
        self.assertFalse(is_right(seam_paper(Seam(same(2), wide))))


class Unlike(Case):
    def test_words(self):
        chance = random.Random(2)
        for _ in range(60):
            signs = chance.randint(1, 3)
            one, other = some_rule(chance, signs), some_rule(chance, signs)
            paper = unlike_paper(one=one, other=other)
            self.assertEqual(paper is None, one == other)
            if paper is not None:
                self.assertTrue(is_right(paper))
                self.assertTrue(is_right(("unlike", other, one, paper[3])))
                self.assertFalse(is_right(("unlike", one, one, paper[3])))

    def test_wrong_words(self):
        rule = carry().rule
        paper = ("unlike", rule, same_rule(4), (0, 2))
        self.assertTrue(is_right(paper))
        for word in ((0, 0), (0, 1), (0,), (0, 2, 0), (0, 4), (False, 2), [0, 2], "02", 2):
            self.assertFalse(is_right(with_item(paper, 3, word)), word)
        self.assertFalse(is_right(("unlike", rule, same_rule(3), (0, 2))))
        self.fails(UnlikeSigns, (4, 3), unlike_paper, rule, same_rule(3))

    def test_limits(self):
        one, other = move_rule(2, 9), move_rule(2, -9)
        self.fails(TooMany, ("table", 2 ** 19), unlike_paper, one, other)
        self.assertTrue(is_right(("unlike", one, other, (0,) * 18 + (1,))))
        self.assertTrue(is_right(("unlike", one, other, (1,) + (0,) * 18)))
        self.assertFalse(is_right(("unlike", one, other, (0,) * 9 + (1,) + (0,) * 9)))
        self.assertTrue(is_right(("unlike", move_rule(2, 99), move_rule(2, -99), (0,) * 198 + (1,))))


class Carried(Case):
    def test_exchanges(self):
        nothing = Exchange(TWO, 0, 0, (0,))
        for exchange, machine in (
            (swap_signs(FOUR, 3, 1, 2), carry()), (swap_signs(TWO, 0, 0, 1), flip()), (nothing, flip()),
            (Exchange(TWO, 0, 2, (1, 0, 3, 2)), move(2, 3)), (swap_signs(FOUR, 0, 0, 3), ~carry()),
        ):
            paper = carry_paper(exchange=exchange, machine=machine)
            self.assertTrue(is_right(paper))
            self.assertEqual(paper[4], carried_over(exchange, machine))
            self.assertEqual(is_right(with_item(paper, 4, exchange)), paper[4] == exchange)
            self.assertEqual(is_right(with_item(paper, 3, paper[4])), paper[4] == exchange)

    def test_wrong_exchanges(self):
        swap = swap_signs(FOUR, 3, 1, 2)
        paper = carry_paper(swap, carry())
        self.assertFalse(is_right(with_item(paper, 4, paper[4] + swap)))
        self.assertFalse(is_right(with_item(paper, 4, Exchange(TWO, 0, 0, (0,)))))
        self.assertFalse(is_right(with_item(paper, 3, swap_signs(Ground(5), 3, 1, 2))))
        self.assertFalse(is_right(("exchange", carry().back, carry().rule, *paper[3:])))
        self.assertFalse(is_right(("exchange", carry().rule, carry().rule, *paper[3:])))
        nothing = Exchange(TWO, 0, 0, (0,))
        self.assertFalse(is_right(("exchange", carry().rule, carry().back, nothing, nothing)))
        self.fails(UnlikeGrounds, (), carry_paper, swap, flip())

    def test_limits(self):
        self.assertTrue(is_right(carry_paper(Exchange(TWO, 0, 6, [*range(62), 63, 62]), flip())))
        far = Exchange(TWO, 0, 7, [*range(126), 127, 126])
        self.fails(TooMany, ("words", 2 ** 13), carry_paper, far, flip())
        self.assertFalse(is_right(("exchange", flip().rule, flip().back, far, far)))
        rule, back = move_rule(2, 5), move_rule(2, -5)
        swap = swap_signs(TWO, 0, 0, 1)
        self.assertFalse(is_right(("exchange", rule, back, swap, swap_signs(TWO, 5, 0, 1))))
        self.assertTrue(is_right(("exchange", move_rule(2, 4), move_rule(2, -4), swap, swap_signs(TWO, 4, 0, 1))))


class LotsPapers(Case):
    def test_sets_that_stand(self):
        seen = Seen(carry())
        self.assertIsNone(lots_paper(seen))
        seen.say("a", 0, 0, 1)
        self.assertIsNone(lots_paper(seen=seen, tick=2))
        self.assertFalse(is_right(("lots", carry().rule, carry().back, (), 0, (((),),))))

    def test_at_each_tick(self):
        seen = contradiction()
        for tick in range(-4, 5):
            paper = lots_paper(seen, tick)
            self.assertTrue(is_right(paper))
            self.assertTrue(is_through_and_through(paper))
            self.assertEqual((paper[4], paper[5][-1]), (tick, ()))
            self.assertEqual(is_right(with_item(paper, 4, tick + 1)), False)
        self.fails(InvalidNumber, (5,), lots_paper, seen, 5)
        self.fails(InvalidNumber, (True,), lots_paper, seen, True)

    def test_wrong_sayings(self):
        paper = lots_paper(contradiction())
        sayings = paper[3]
        wrong = (
            (), sayings[1:], sayings[:-1], sayings + ((0, 0, ()),), sayings + ((0, 0),), sayings + ((0, 0, (1,), 0),),
            sayings + (None,), sayings[:-1] + ((1, 1, [2, 3]),), sayings[:-1] + ([1, 1, (2, 3)],), list(sayings),
            sayings[:-1] + ((1, 1, (3, 2)),), sayings[:-1] + ((1, 1, (2, 2, 3)),), sayings[:-1] + ((1, 1, (2, 4)),),
            sayings[:-1] + ((True, 1, (2, 3)),), sayings[:-1] + ((1, True, (2, 3)),), sayings[:-1] + ((1, 1, ()),),
            sayings[:-1] + ((21, 1, (2, 3)),), sayings[:-1] + ((1, 5, (2, 3)),), sayings[:-1] + ((1, 1, (None,)),),
            sayings[:-1] + ((1, 1, ((2,),)),), sayings[:-1] + ((1, 1, "23"),), sayings[:-1] + ((1, 1, (2, True)),),
            sayings[:-1] + ((1, 1, 2),), sayings[:-1] + ((1, 1, (2, [3])),), sayings[:-1] + (("c", 1, 1, (2, 3)),),
        )
        for value in wrong:
            self.assertFalse(is_right(with_item(paper, 3, value)), value)
        # fewer signs keep the lots closed, and any order does
        self.assertTrue(is_right(with_item(paper, 3, sayings[:-1] + ((1, 1, (2,)),))))
        self.assertTrue(is_right(with_item(paper, 3, sayings[::-1])))
        self.assertFalse(is_right(with_item(paper, 3, sayings[:-1] + ((1, 1, (1, 2, 3)),))))

    def test_twelve_sayings(self):
        seen = contradiction()
        for at in range(9):
            seen.say("defghijkl"[at], at, 0, 0, 1, 2, 3)
        paper = lots_paper(seen)
        self.assertEqual(len(paper[3]), 12)
        self.assertTrue(is_right(paper))
        self.assertFalse(is_right(with_item(paper, 3, paper[3] + paper[3][-1:])))

    def test_wrong_ticks_and_lots(self):
        paper = lots_paper(contradiction())
        for tick in (1, -1, 5, -5, None, False, "0", (0,)):
            self.assertFalse(is_right(with_item(paper, 4, tick)))
        told = paper[5]
        for value in (
            told[:-1], told + ((),), told[1:], told[:-1] + (((0,),),), told[:-1] + ([],), ((),) + told[1:], list(told),
            ([()],) + told[1:], told[:1] + (told[1][:-1],) + told[2:], told[:1] + (told[1] + ((4,),),) + told[2:],
            told[:1] + (told[1][:-1] + ([1],),) + told[2:],
        ):
            self.assertFalse(is_right(with_item(paper, 5, value)), value)
        self.assertTrue(is_right(with_item(paper, 5, told[:1] + (told[1] * 2,) + told[2:])))

    def test_limits(self):
        seen = Seen(flip())
        seen.say("a", 0, 3, 0)
        seen.say("b", 0, 3, 1)
        paper = lots_paper(seen)
        self.assertTrue(is_right(paper))
        self.fails(TooMany, ("table", 2 ** 13), lots_paper, seen, -1)
        self.assertFalse(is_right(with_item(paper, 4, -1)))
        sayings = ((0, 0, (0,)), (0, 0, (1,)))
        empty = (((),), ())
        self.assertTrue(is_right(("lots", move_rule(2, 4), move_rule(2, -4), sayings, 0, empty)))
        self.assertFalse(is_right(("lots", move_rule(2, 5), move_rule(2, -5), sayings, 0, empty)))
        wide = flip() + flip().mirrored()
        self.assertFalse(is_right(("lots", wide.rule, wide.back, sayings, 0, empty)))

    def test_papers_module(self):
        names = "is_right back_paper flow_paper seam_paper carry_paper loses_paper unlike_paper lots_paper".split()
        for name in names:
            self.assertEqual(getattr(papers, name).__module__, "borderflow.papers")


if __name__ == "__main__":
    unittest.main()
