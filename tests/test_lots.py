"""Lots: point [40] and the interface of borderflow/lots.py."""

import itertools
import random
import unittest

from borderflow.errors import InvalidNumber, TooMany
from borderflow.lots import are_closed, lots
from borderflow.machines import move, same, wall
from borderflow.ratios import Ratio
from borderflow.rows import Row
from borderflow.seen import Seen
from tests.cases import Case
from tests.known import carry, flip, third

NO_NUMBERS = (None, True, False, "1", "", (), [], (1,), [1], Ratio(1))
ANYTHING = (None, True, False, 0, 1, "", "lots", (), [], (None,), [[]], [()], ((),), {}, Row((0,)), Ratio(1))
LETTERS = "abcdefghijkl"


def pulled(seen, tick):
    """The stretches (first, end) and the signs of the sayings, by the words of point [39]."""
    found = []
    for _, cell, t, signs in seen.sayings():
        k = t - tick
        rule = seen.machine.rule if k >= 0 else seen.machine.back
        found.append((cell + abs(k) * rule.low, cell + abs(k) * rule.high + 1, rule, abs(k), signs))
    return found


def keeps(pull, word):
    """Whether the word of the stretch of a saying keeps it."""
    _, _, rule, times, signs = pull
    for _ in range(times):
        word = rule.on_word(word)
    return word[0] in signs


def plain_lots(seen, tick):
    """The lots by the words of point [40]: from all words of each length."""
    pulls = pulled(seen, tick)
    first, end = seen.stretch(tick)
    width = max([1] + [pull[1] - pull[0] for pull in pulls])
    found = []
    for k in range(end - first + 1):
        tails = set()
        for word in itertools.product(range(seen.machine.signs), repeat=k):
            inside = [pull for pull in pulls if pull[1] <= first + k]
            if all(keeps(pull, word[pull[0] - first:pull[1] - first]) for pull in inside):
                tails.add(word[max(0, k - width + 1):])
        found.append(sorted(tails))
    return found


def small_sets():
    chance = random.Random(1)
    machines = [flip(), carry(), ~carry(), third(), move(3, 1), same(2)]
    found = []
    for _ in range(140):
        seen = Seen(chance.choice(machines))
        for at in range(chance.randint(0, 5)):
            signs = [chance.randrange(seen.machine.signs) for _ in range(chance.randint(1, 2))]
            seen.say(LETTERS[at], chance.randint(-2, 2), chance.randint(-1, 1), *signs)
        for tick in (-1, 0, 1):
            first, end = seen.stretch(tick)
            if seen.machine.signs ** (end - first) <= 600:
                found.append((seen, tick))
    return found


SETS = small_sets()


def contradiction():
    """A seen set that does not stand: the p of a cell of Carry comes from its left neighbour."""
    seen = Seen(carry())
    seen.say("a", 0, 0, 0)
    seen.say("b", 1, 1, 2, 3)
    return seen


class Lots(Case):
    def test_as_a_plain_search_says(self):
        self.assertGreater(len(SETS), 150)
        for seen, tick in SETS:
            told = lots(seen, tick)
            self.assertEqual(told, plain_lots(seen, tick))
            self.assertEqual(told[-1] == [], not seen.stands(tick))
            self.assertIs(type(told), list)
            self.assertTrue(all(type(lot) is list for lot in told))
        stands = [seen.stands(tick) for seen, tick in SETS]
        self.assertGreater(min(stands.count(True), stands.count(False)), 20)

    def test_without_sayings(self):
        for machine in (carry(), wall()):
            for tick in (-4, 0, 4):
                self.assertEqual(lots(Seen(machine), tick), [[()]])
        self.assertEqual(lots(seen=Seen(flip())), [[()]])

    def test_tails_of_no_signs(self):
        seen = Seen(same(3))
        seen.say("a", 2, 0, 1)
        seen.say("b", 4, 1, 0, 2)
        for tick in range(-4, 5):
            self.assertEqual(lots(seen, tick=tick), [[()], [()], [()], [()]])
        seen.say("c", 2, 2, 2)
        self.assertEqual(lots(seen), [[()], [], [], []])

    def test_a_tail_that_is_the_whole_word(self):
        seen = contradiction()
        self.assertEqual(lots(seen), [[()], [(0,)], []])
        self.assertEqual(lots(seen, 1), [[()], [(0,), (1,), (2,), (3,)], []])
        seen = Seen(carry())
        seen.say("b", 1, 1, 3)
        self.assertEqual(lots(seen), [[()], [(0,), (1,), (2,), (3,)], [(0,), (2,)]])

    def test_long_stretches(self):
        seen = Seen(flip())
        for at in range(12):
            seen.say(LETTERS[at], 3 * at - 20, at % 5 - 2, at % 2)
        told = lots(seen)
        first, end = seen.stretch()
        self.assertEqual((len(told), end - first > 30), (end - first + 1, True))
        self.assertTrue(are_closed(seen, told))
        self.assertTrue(all(len(word) == min(k, 6) for k, lot in enumerate(told) for word in lot))

    def test_limits(self):
        seen = Seen(flip())
        seen.say("a", 0, 3, 1)
        self.assertEqual(len(lots(seen)), 11)
        for wrong in (*NO_NUMBERS, 5, -5):
            self.fails(InvalidNumber, (wrong,), lots, seen, wrong)
            self.fails(InvalidNumber, (wrong,), are_closed, seen, None, wrong)
        self.fails(TooMany, ("table", 2 ** 13), lots, seen, -1)
        self.fails(TooMany, ("table", 2 ** 13), are_closed, seen, None, -1)


class Closed(Case):
    def test_the_lots_are_closed(self):
        for seen, tick in SETS:
            told = lots(seen, tick)
            self.assertIs(are_closed(seen, told, tick), True)
            self.assertIs(are_closed(seen, tuple(tuple(lot) for lot in told), tick), True)
            self.assertIs(are_closed(tick=tick, value=[tuple(lot) for lot in told], seen=seen), True)

    def test_any_order_and_words_that_stand_several_times(self):
        chance = random.Random(2)
        for seen, tick in SETS[::4]:
            told = [chance.sample(lot + lot, 2 * len(lot)) for lot in lots(seen, tick)]
            self.assertIs(are_closed(seen, told, tick), True)

    def test_more_words_than_are_needed(self):
        seen = Seen(carry())
        seen.say("a", 0, 0, 0)
        seen.say("b", 1, 1, 0, 2)
        self.assertEqual(lots(seen), [[()], [(0,)], [(0,), (2,)]])
        whole = [(0,), (1,), (2,), (3,)]
        self.assertTrue(are_closed(seen, [[()], whole, whole]))
        self.assertTrue(are_closed(seen, [[()], [(0,), (1,)], whole]))
        self.assertTrue(are_closed(seen, [[()], [(0,), (1,)], [(0,), (2,)]]))
        # (2,) could be left out, but then what follows from it has to be there
        self.assertFalse(are_closed(seen, [[()], [(0,), (2,)], [(0,), (2,)]]))
        self.assertFalse(are_closed(seen, [[()], [(0,), (2,)], [(0,), (2,), (1,)]]))
        self.assertTrue(are_closed(seen, [[()], [(0,), (2,)], [(0,), (2,), (1,), (3,)]]))

    def test_one_word_left_out(self):
        for seen, tick in SETS:
            told = lots(seen, tick)
            for at, lot in enumerate(told):
                for word in lot[:4]:
                    less = [[other for other in lot if other != word] if at == k else told[k] for k in range(len(told))]
                    self.assertIs(are_closed(seen, less, tick), False, (seen.sayings(), tick, at, word))

    def test_wrong_words(self):
        seen = Seen(carry())
        seen.say("a", 1, 1, 0)
        told = lots(seen)
        wrong = (None, True, 0, "0", (), [0], (4,), (-1,), (True,), (0, 0), (None,), ((0,),), Row((0,)), "", [])
        for at in (1, 2):
            for word in wrong:
                self.assertIs(are_closed(seen, [told[k] + [word] if k == at else told[k] for k in range(3)]), False)
        self.assertIs(are_closed(seen, [[(), (0,)], told[1], told[2]]), False)
        self.assertIs(are_closed(seen, [[(), ()], told[1], told[2]]), True)

    def test_wrong_forms(self):
        seen = contradiction()
        told = lots(seen)
        self.assertTrue(are_closed(seen, told))
        for value in (*ANYTHING, told[:-1], told + [[]], told[1:], [told], (told,), {0: told[0]}, "abc", [(), (), ()]):
            self.assertIs(are_closed(seen, value), False, value)
        for value in (None, 0, "", "ab", {}, Row((0,))):
            for at in range(3):
                self.assertIs(are_closed(seen, [value if k == at else told[k] for k in range(3)]), False)
        self.assertIs(are_closed(seen, [told[0], told[1], ((0,),)]), True)
        self.assertIs(are_closed(seen, [[], [], []]), False)

    def test_without_sayings(self):
        seen = Seen(flip())
        self.assertTrue(are_closed(seen, [[()]]))
        self.assertTrue(are_closed(seen, (((), ()),), 4))
        for value in (*ANYTHING[:9], [[]], [[()], [()]], [[(0,)]], [[()], []], [[None]]):
            self.assertIs(are_closed(seen, value), False)

    def test_lots_of_another_tick(self):
        seen = contradiction()
        self.assertTrue(are_closed(seen, lots(seen, 1), 1))
        self.assertFalse(are_closed(seen, lots(seen, 1), 0))
        self.assertFalse(are_closed(seen, lots(seen, 0), 1))

    def test_seen_sets_stay_as_they_are(self):
        seen = contradiction()
        told = lots(seen)
        told[0].append((9,))
        are_closed(seen, told)
        self.assertEqual((seen, lots(seen)), (contradiction(), [[()], [(0,)], []]))


if __name__ == "__main__":
    unittest.main()
