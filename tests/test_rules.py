"""Rules: points [8] and [10] and the interface of borderflow/rules.py."""

import itertools
import random
import unittest

from borderflow.errors import (
    InvalidNumber, InvalidTable, InvalidText, InvalidWindow, InvalidWord, NotAllowed, TooMany, UnlikeSigns,
)
from borderflow.rows import Row
from borderflow.rules import Rule, move_rule, same_rule, sum_rule
from borderflow.words import word_index
from tests.cases import CARRY, FLIP, Case, plain_ring_step, some_row, some_rule, words

ANYTHING = (None, True, False, "1", (1,), [1], Row((0,)))


class Rules(Case):
    def form(self, rule):
        return rule.signs, rule.low, rule.high, rule.table

    def test_attributes(self):
        rule = Rule(4, -1, 0, list(CARRY))
        self.assertEqual(self.form(rule), (4, -1, 0, CARRY))
        self.assertEqual(rule.width, 2)
        self.assertEqual(rule, Rule(signs=4, low=-1, high=0, table=CARRY))

    def test_the_table_is_copied(self):
        table = [0, 1]
        rule = Rule(2, 0, 0, table)
        table[0] = 1
        self.assertEqual(rule.table, (0, 1))

    def test_least_window(self):
        chance = random.Random(1)
        for _ in range(200):
            signs = chance.randint(2, 3)
            inner = some_rule(chance, signs, 2)
            below, above = chance.randint(0, 2), chance.randint(0, 2)
            low, high = inner.low - below, inner.high + above
            table = []
            for word in words(high - low + 1, signs):
                table.append(inner.table[word_index(word[below:below + inner.width], signs)])
            rule = Rule(signs, low, high, table)
            self.assertEqual(self.form(rule), self.form(inner))
            self.assertEqual(rule.width, inner.width)

    def test_ends_that_do_not_count(self):
        self.assertEqual(self.form(Rule(2, 0, 2, (0, 0, 1, 1, 0, 0, 1, 1))), (2, 1, 1, (0, 1)))
        self.assertEqual(self.form(Rule(2, -2, 0, (0, 1, 1, 0, 0, 1, 1, 0))), (2, -1, 0, (0, 1, 1, 0)))
        self.assertEqual(self.form(Rule(2, 3, 5, (0, 1, 0, 1, 1, 0, 1, 0))), (2, 3, 5, (0, 1, 0, 1, 1, 0, 1, 0)))

    def test_no_cell_counts(self):
        self.assertEqual(self.form(Rule(3, 5, 6, (2,) * 9)), (3, 0, 0, (2, 2, 2)))
        self.assertEqual(self.form(Rule(1, -99, 99, (0,))), (1, 0, 0, (0,)))
        self.assertEqual(Rule(1, 4, 5, [0]).width, 1)

    def test_wrong_signs(self):
        for wrong in (0, -1) + ANYTHING:
            self.fails(InvalidNumber, (wrong,), Rule, wrong, 1, 0, None)
        for signs in (17, 999999999):
            self.fails(TooMany, ("signs", signs), Rule, signs, 1, 0, None)
        self.assertEqual(Rule(16, 0, 0, range_list(16)).signs, 16)

    def test_wrong_windows(self):
        for wrong in ANYTHING:
            self.fails(InvalidWindow, (wrong, 0), Rule, 16, wrong, 0, None)
            self.fails(InvalidWindow, (0, wrong), Rule, 16, 0, wrong, None)
        for low, high in ((1, 0), (-100, 0), (0, 100), (-100, -100), (100, 100)):
            self.fails(InvalidWindow, (low, high), Rule, 16, low, high, None)
        self.assertEqual(Rule(2, 99, 99, (0, 1)).low, 99)
        self.assertEqual(Rule(2, -99, -99, (0, 1)).high, -99)

    def test_limit_of_the_table(self):
        self.assertEqual(len(sum_rule(2, 0, 11).table), 4096)
        self.assertEqual(len(sum_rule(16, -1, 1).table), 4096)
        self.fails(TooMany, ("table", 8192), Rule, 2, 0, 12, None)
        self.fails(TooMany, ("table", 16 ** 4), Rule, 16, 0, 3, None)
        self.fails(TooMany, ("table", 2 ** 199), Rule, 2, -99, 99, (0,))

    def test_wrong_tables(self):
        for wrong in (None, True, 4, "0000", (0,) * 3, [0] * 5, (), Row((0,))):
            self.fails(InvalidTable, (-1,), Rule, 2, 0, 1, wrong)
        for at in range(4):
            for wrong in (2, -1) + ANYTHING:
                table = [0, 1, 0, 1]
                table[at] = wrong
                self.fails(InvalidTable, (at,), Rule, 2, 0, 1, table)
                self.fails(InvalidTable, (at,), Rule, 2, 0, 1, table[:at + 1] + [7] * (3 - at))

    def test_words(self):
        rule = Rule(2, -1, 2, FLIP)
        self.assertEqual(rule.on_word((0, 0, 1, 0, 1, 1, 0)), (1, 1, 0, 0))
        self.assertEqual(rule.on_word(word=(0, 1, 0)), ())
        self.assertEqual(rule.on_word(()), ())
        self.assertEqual(same_rule(5).on_word(()), ())
        self.assertEqual(same_rule(5).on_word((4, 0)), (4, 0))

    def test_words_and_rings_of_some_rules(self):
        chance = random.Random(2)
        for _ in range(200):
            rule = some_rule(chance)
            ring = tuple(chance.randrange(rule.signs) for _ in range(chance.randint(1, 6)))
            new = rule.ring_step(ring)
            self.assertEqual(new, plain_ring_step(rule, ring))
            row = Row(ring)
            told = rule.on_word(row.word(-5 + rule.low, 8 + rule.high))
            self.assertEqual(told, Row(new).word(-5, 8))

    def test_wrong_words(self):
        for wrong in ([0], "0", 0, None, True, (2,), (-1,), (True,), (0, None), Row((0,))):
            self.fails(InvalidWord, (wrong,), Rule(2, -1, 2, FLIP).on_word, wrong)
            self.fails(InvalidWord, (wrong,), Rule(2, -1, 2, FLIP).ring_step, wrong)
        self.fails(InvalidWord, ((),), same_rule(2).ring_step, ())

    def test_rows(self):
        chance = random.Random(3)
        for _ in range(300):
            rule = some_rule(chance)
            row = some_row(chance, rule.signs)
            new = rule.step(row)
            for cell in range(-20, 20):
                index = word_index(row.word(cell + rule.low, cell + rule.high + 1), rule.signs)
                self.assertEqual(new[cell], rule.table[index])
            self.assertEqual(new, Row(new.left, new.told, new.right, start=new.start))

    def test_rows_that_are_not_allowed(self):
        rule = same_rule(2)
        self.fails(NotAllowed, (2, -1), rule.step, Row((0,), (2, 0, 3), start=-1))
        self.fails(NotAllowed, (5, 1), rule.step, Row((0,), (5, 0), (0, 3), start=1))
        self.fails(NotAllowed, (2, -9), rule.step, Row((2,), (), (0,), start=-8))
        self.assertEqual(rule.step(row=Row((0, 1), (1,))), Row((0, 1), (1,)))

    def test_steps_beyond_the_bounds_of_starts(self):
        row = move_rule(2, 99).step(Row((0,), (1,), start=9999))
        self.assertEqual(row.start, 10098)

    def test_equal(self):
        rule = Rule(2, 0, 1, (0, 1, 1, 0))
        self.assertTrue(rule == Rule(2, -1, 1, (0, 1, 1, 0, 0, 1, 1, 0)))
        self.assertFalse(rule != Rule(2, -1, 1, (0, 1, 1, 0, 0, 1, 1, 0)))
        for other in (Rule(2, 0, 1, (0, 1, 1, 1)), Rule(2, 1, 2, (0, 1, 1, 0)), same_rule(2), same_rule(3), None,
                      (0, 1, 1, 0), str(rule)):
            self.assertFalse(rule == other)
            self.assertTrue(rule != other)
        self.assertTrue(bool(rule))


def range_list(size):
    return list(range(size))


class Operators(Case):
    def test_one_then_other(self):
        chance = random.Random(4)
        for _ in range(200):
            signs = chance.randint(1, 3)
            one, other = some_rule(chance, signs), some_rule(chance, signs)
            both = one + other
            self.assertIs(type(both), Rule)
            for length in (1, 2, 5):
                for ring in words(length, signs)[:9]:
                    self.assertEqual(both.ring_step(ring), other.ring_step(one.ring_step(ring)))
            row = some_row(chance, signs)
            self.assertEqual(both.step(row), other.step(one.step(row)))
            if (both.low, both.high) != (0, 0):
                self.assertEqual(both, Rule(signs, both.low, both.high, both.table))

    def test_the_window_of_a_sum_is_least(self):
        flip = Rule(2, -1, 2, FLIP)
        self.assertEqual(flip + flip, same_rule(2))
        self.assertEqual((flip + flip).width, 1)
        xor = sum_rule(2, 0, 1)
        self.assertEqual((xor + xor).table, (0, 1, 0, 1, 1, 0, 1, 0))

    def test_errors_of_sums(self):
        self.fails(UnlikeSigns, (2, 3), lambda: sum_rule(2, 0, 11) + sum_rule(3, 0, 6))
        self.fails(TooMany, ("table", 2 ** 13), lambda: sum_rule(2, 0, 6) + sum_rule(2, -6, 0))
        self.assertEqual((sum_rule(2, 0, 6) + sum_rule(2, -5, 0)).width, 12)
        # the window counts, whatever the sum needs
        wide = sum_rule(2, 0, 11)
        self.fails(TooMany, ("table", 2 ** 13), lambda: wide + sum_rule(2, 0, 1))
        self.assertEqual(wide + Rule(2, 0, 0, (1, 1)), Rule(2, 0, 0, (1, 1)))

    def test_one_beside_other(self):
        chance = random.Random(5)
        for _ in range(60):
            one, other = some_rule(chance, chance.randint(1, 3), 2), some_rule(chance, chance.randint(1, 3), 2)
            hull = max(one.high, other.high) - min(one.low, other.low) + 1
            if (one.signs * other.signs) ** hull > 4096:
                continue
            both = one * other
            self.assertEqual(both.signs, one.signs * other.signs)
            ring = tuple(chance.randrange(both.signs) for _ in range(5))
            upper = one.ring_step(tuple(sign // other.signs for sign in ring))
            lower = other.ring_step(tuple(sign % other.signs for sign in ring))
            told = tuple(s * other.signs + t for s, t in zip(upper, lower))
            self.assertEqual(both.ring_step(ring), told)

    def test_errors_of_products(self):
        self.fails(TooMany, ("signs", 18), lambda: move_rule(6, 99) * move_rule(3, -99))
        self.fails(TooMany, ("table", 16 ** 4), lambda: move_rule(4, 1) * move_rule(4, -2))
        self.assertEqual((move_rule(4, 1) * move_rule(4, -1)).width, 3)
        self.assertEqual((same_rule(4) * same_rule(4)), same_rule(16))

    def test_moved(self):
        rule = Rule(4, -1, 0, CARRY)
        self.assertEqual((rule >> 1, rule << 1), (Rule(4, -2, -1, CARRY), Rule(4, 0, 1, CARRY)))
        self.assertEqual(rule >> -3, rule << 3)
        row = Row((0,), (1, 2, 3), (0, 2), start=1)
        self.assertEqual((rule >> 2).step(row), rule.step(row) >> 2)
        self.assertEqual((rule << 2).step(row), rule.step(row) << 2)

    def test_moved_beyond_the_bounds_of_windows(self):
        rule = move_rule(2, 99) >> 99
        self.assertEqual((rule.low, rule.high), (-198, -198))
        self.assertEqual((rule << 99), move_rule(2, 99))
        constant = Rule(2, 0, 0, (1, 1))
        self.assertEqual(constant >> 7, constant)
        self.assertEqual((constant >> 7).low, 0)
        self.assertEqual(same_rule(1) >> 5, same_rule(1))
        self.assertEqual((rule + rule).low, -396)

    def test_raised(self):
        rule = Rule(4, -1, 0, CARRY)
        self.assertEqual(rule.raised(0), same_rule(4))
        self.assertEqual(rule ** 1, rule)
        self.assertEqual(rule.raised(k=3), rule + rule + rule)
        self.assertEqual(Rule(2, -1, 2, FLIP) ** 12, same_rule(2))
        self.assertEqual(move_rule(2, 3) ** 12, move_rule(2, 36))

    def test_errors_of_powers(self):
        rule = sum_rule(2, 0, 11)
        for wrong in (-1, 13) + ANYTHING:
            self.fails(InvalidNumber, (wrong,), rule.raised, wrong)
            self.fails(InvalidNumber, (wrong,), lambda: rule ** wrong)
        self.fails(TooMany, ("table", 2 ** 23), lambda: rule ** 2)
        self.fails(TooMany, ("table", 2 ** 23), lambda: rule ** 12)
        self.assertEqual(rule ** 1, rule)
        self.fails(TooMany, ("table", 2 ** 13), lambda: sum_rule(2, 0, 4) ** 3)

    def test_unchanged(self):
        one, other = Rule(2, -1, 2, FLIP), sum_rule(2, 0, 1)
        (one + other, one * other, one >> 2, one ** 2)
        self.assertEqual((one.low, one.high, one.table), (-1, 2, FLIP))
        self.assertEqual((other.low, other.high, other.table), (0, 1, (0, 1, 1, 0)))


class Texts(Case):
    def wrong(self, text, line, why="form"):
        self.fails(InvalidText, (line, why), Rule.read, text)

    def test_texts(self):
        rule = Rule(2, -2, 0, (0, 1, 1, 0, 0, 1, 1, 0))
        self.assertEqual(rule.text(), "rule 2 -1 0\n0 1 1 0\n")
        self.assertEqual(str(rule), rule.text())
        self.assertEqual(repr(rule), "Rule(2 signs, window -1 to 0)")
        self.assertEqual(repr(Rule(4, -1, 0, CARRY)), "Rule(4 signs, window -1 to 0)")
        self.assertEqual(repr(same_rule(1)), "Rule(1 signs, window 0 to 0)")

    def test_back_again(self):
        chance = random.Random(6)
        for _ in range(50):
            rule = some_rule(chance)
            self.assertEqual(Rule.read(rule.text()), rule)
        self.assertEqual(Rule.read(text=sum_rule(16, -1, 1).text()), sum_rule(16, -1, 1))

    def test_windows_need_not_be_least(self):
        self.assertEqual(Rule.read("rule 2 -2 0\n0 1 1 0 0 1 1 0\n"), Rule(2, -1, 0, (0, 1, 1, 0)))
        self.assertEqual(Rule.read("rule 1 -99 99\n0\n"), same_rule(1))

    def test_no_strings(self):
        for value in (None, True, 0, ("rule 1 0 0\n0\n",), same_rule(1)):
            self.wrong(value, 0)

    def test_missing_lines(self):
        self.wrong("", 0, "missing")
        self.wrong("rule 2 0 0\n", 1, "missing")

    def test_lines_without_an_end(self):
        self.wrong("rule 2 0 0", 0)
        self.wrong("rule 2 0 0\n0 1", 1)

    def test_a_third_line(self):
        self.wrong("rule 2 0 0\n0 1\n\n", 2)
        self.wrong("rule 2 0 0\n0 1\nx", 2)

    def test_wrong_first_lines(self):
        for line in ("", "rule", "rule ", "rule 2 0", "rule 2 0 0 0", "rule  2 0 0", "rule 2 0 0 ", "row 2 0 0",
                     "rule 0 0 0", "rule -1 0 0", "rule 17 0 0", "rule 2 1 0", "rule 2 -100 0", "rule 2 0 100",
                     "rule 2 0 12", "rule 02 0 0", "rule 2 -0 0", "rule 2 +0 0", "rule 2 x 0", "rule 1234567890 0 0"):
            self.wrong(f"{line}\n0 1\n", 0)
            self.wrong(f"{line}\n", 0)
            self.wrong(f"{line}\nx", 0)

    def test_wrong_tables(self):
        for line in ("", "0", "0 1 0", "0 2", "0 -1", "0 01", "0  1", "0 1 ", " 0 1", "0 x", "0 -0", "0 +1", "0,1"):
            self.wrong(f"rule 2 0 0\n{line}\n", 1)
            self.wrong(f"rule 2 0 0\n{line}\nx\n", 1)


class Made(Case):
    def test_same_rule(self):
        for signs in range(1, 17):
            self.assertEqual(same_rule(signs), Rule(signs, 0, 0, range_list(signs)))
        for wrong in (0, -1) + ANYTHING:
            self.fails(InvalidNumber, (wrong,), same_rule, wrong)
        self.fails(TooMany, ("signs", 17), same_rule, 17)

    def test_move_rule(self):
        row = Row((0,), (1, 2), (0, 1))
        for d in (-99, -3, 0, 5, 99):
            self.assertEqual(move_rule(signs=3, d=d).step(row), row >> d)
        for wrong in (0, -1) + ANYTHING:
            self.fails(InvalidNumber, (wrong,), move_rule, wrong, "x")
        self.fails(TooMany, ("signs", 17), move_rule, 17, "x")
        self.fails(InvalidWindow, (-100, -100), move_rule, 2, 100)
        self.fails(InvalidWindow, (100, 100), move_rule, 2, -100)
        for wrong in ANYTHING:
            self.fails(InvalidWindow, (wrong, wrong), move_rule, 2, wrong)

    def test_sum_rule(self):
        for signs, low, high in itertools.product((1, 2, 3, 5), (-2, 0), (0, 1)):
            rule = sum_rule(signs, low=low, high=high)
            ring = tuple(at * at % signs for at in range(7))
            told = tuple(sum(ring[(at + k) % 7] for k in range(low, high + 1)) % signs for at in range(7))
            self.assertEqual(rule.ring_step(ring), told)
        for wrong in (0, -1) + ANYTHING:
            self.fails(InvalidNumber, (wrong,), sum_rule, wrong, 1, 0)
        self.fails(TooMany, ("signs", 17), sum_rule, 17, 1, 0)
        for low, high in ((1, 0), (-100, 0), (0, 100), (True, 1), (0, True), (None, 1), (0, "1")):
            self.fails(InvalidWindow, (low, high), sum_rule, 16, low, high)
        self.fails(TooMany, ("table", 2 ** 199), sum_rule, 2, -99, 99)


if __name__ == "__main__":
    unittest.main()
