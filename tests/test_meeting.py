"""What loses nothing: point [9] and the interface of borderflow/meeting.py."""

import itertools
import random
import unittest

from borderflow.errors import TooMany
from borderflow.meeting import loses_nothing, meeting_rings, rings_meet
from borderflow.rows import Row
from borderflow.rules import Rule, move_rule, same_rule, sum_rule
from tests.cases import CARRY, FLIP, THIRD, Case, plain_ring_step, words
from tests.known import chain


def plain_meeting_rings(rule, longest):
    """The least meeting pair by the words of point [9] alone, if it has at most so many cells."""
    for length in range(1, longest + 1):
        pairs = []
        led = {}
        for ring in words(length, rule.signs):
            new = plain_ring_step(rule, ring)
            if new in led:
                pairs.append((led[new], ring))
            led.setdefault(new, ring)
        if pairs:
            return min(pairs)
    return None


class Meeting(Case):
    def agrees(self, rule, longest):
        found = meeting_rings(rule)
        self.assertIs(loses_nothing(rule), found is None)
        if found is None:
            self.assertIsNone(plain_meeting_rings(rule, longest))
            return 0
        one, other = found
        self.assertLess(one, other)
        self.assertTrue(rings_meet(rule, one, other))
        self.assertEqual(found, plain_meeting_rings(rule, len(one)))
        return len(one)

    def test_all_rules_of_two_signs_with_up_to_three_cells(self):
        for width in (1, 2, 3):
            for table in itertools.product((0, 1), repeat=2 ** width):
                self.agrees(Rule(2, -1, width - 2, table), 8)

    def test_some_rules_that_have_each_sign_equally_often(self):
        chance = random.Random(1)
        lengths = set()
        for signs, width, many in ((2, 4, 200), (2, 5, 30), (3, 2, 200), (3, 3, 10), (4, 2, 60)):
            for _ in range(many):
                table = [sign for sign in range(signs) for _ in range(signs ** (width - 1))]
                chance.shuffle(table)
                lengths.add(self.agrees(Rule(signs, 0, width - 1, table), 6))
        self.assertTrue({0, 1, 2, 3, 4} <= lengths)

    def test_some_rules_that_lose_little(self):
        chance = random.Random(2)
        for _ in range(400):
            times = chance.choice((1, 2))
            table = [sign for sign in FLIP for _ in range(times)]
            one, other = chance.randrange(len(table)), chance.randrange(len(table))
            table[one], table[other] = table[other], table[one]
            rule = Rule(2, 0, len(table).bit_length() - 2, table)
            self.agrees(rule, 9)

    def test_pairs_that_begin_alike(self):
        # both rings begin with the same word of as many cells as the window has, less one
        for signs, table, told in (
            (2, (0, 0, 0, 1, 0, 1, 1, 1), ((0, 0, 0), (0, 0, 1))),
            (2, (0, 0, 1, 0, 1, 0, 1, 1), ((0, 0, 0, 1), (0, 0, 1, 1))),
            (2, (0, 0, 0, 0, 1, 1, 0, 1, 0, 1, 0, 0, 1, 1, 1, 1), ((0, 0, 0, 0, 1), (0, 0, 0, 1, 1))),
            (3, (2, 0, 2, 1, 0, 2, 1, 0, 1), ((0, 0, 1), (0, 2, 1))),
            (4, (0, 3, 0, 3, 1, 2, 2, 1, 1, 0, 3, 3, 2, 2, 0, 1), ((0, 0, 1), (0, 2, 2))),
        ):
            width = {8: 3, 16: 4 if signs == 2 else 2, 9: 2}[len(table)]
            rule = Rule(signs, 0, width - 1, table)
            self.assertEqual(meeting_rings(rule), told)
            self.assertEqual(plain_meeting_rings(rule, 5), told)

    def test_examples(self):
        self.assertEqual(meeting_rings(rule=sum_rule(2, 0, 1)), ((0,), (1,)))
        self.assertEqual(meeting_rings(sum_rule(2, -1, 1)), ((0, 0, 0), (0, 1, 1)))
        self.assertEqual(meeting_rings(Rule(4, 2, 2, (3, 1, 2, 1))), ((1,), (3,)))
        self.assertEqual(meeting_rings(sum_rule(2, -3, 3)), ((0,) * 7, (0,) * 5 + (1, 1)))
        for rule in (Rule(2, -1, 2, FLIP), Rule(4, -1, 0, CARRY), Rule(6, 0, 1, THIRD), chain(4), same_rule(1),
                     move_rule(16, -99), same_rule(16)):
            self.assertIsNone(meeting_rings(rule))
            self.assertIs(loses_nothing(rule=rule), True)

    def test_limit(self):
        self.assertEqual(meeting_rings(sum_rule(2, 0, 6)), ((0,) * 7, (0,) * 5 + (1, 1)))
        self.assertEqual(meeting_rings(sum_rule(8, -1, 1)), ((0, 0, 0), (0, 1, 7)))
        for call in (meeting_rings, loses_nothing):
            self.fails(TooMany, ("pairs", 2 ** 14), call, sum_rule(2, 0, 7))
            self.fails(TooMany, ("pairs", 9 ** 4), call, sum_rule(9, -1, 1))
            self.fails(TooMany, ("pairs", 16 ** 4), call, sum_rule(16, -1, 1))

    def test_rings_meet(self):
        rule = sum_rule(2, -1, 1)
        self.assertIs(rings_meet(rule=rule, one=(0, 0, 0), other=(0, 1, 1)), True)
        self.assertIs(rings_meet(rule, (1, 1, 0), (0, 0, 0)), True)
        self.assertIs(rings_meet(rule, (0,) * 6, (0, 1, 1) * 2), True)
        for one, other in (((0, 0, 0), (0, 0, 0)), ((0, 0, 0), (0, 0, 1)), ((0,), (0, 1, 1)), ((), ()),
                           ((0, 0, 0), (0, True, 1)), ([0, 0, 0], (0, 1, 1)), ((0, 0, 0), [0, 1, 1]),
                           ((0, 0, 2), (0, 1, 1)), (None, None), (0, 1), (True, False), ("000", "011"),
                           (Row((0,)), Row((0, 1, 1)))):
            self.assertIs(rings_meet(rule, one, other), False)
            self.assertIs(rings_meet(rule, other, one), False)

    def test_rings_meet_has_no_limit(self):
        self.assertIs(rings_meet(sum_rule(2, 0, 11), (0,) * 12, (0,) * 10 + (1, 1)), True)


if __name__ == "__main__":
    unittest.main()
