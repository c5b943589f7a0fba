"""Fringes: point [42] and the interface of borderflow/fringes.py."""

import itertools
import random
import unittest

from borderflow.errors import InvalidWord, TooNarrow
from borderflow.fringes import fringes, past_count, pasts, told_cells
from borderflow.machines import move, same, wall
from borderflow.ratios import Ratio
from borderflow.rows import Row
from tests.cases import Case
from tests.known import carry, flip, third

NO_WORDS = (None, True, False, 0, "01", "", [], [0, 1], (9,), (0, -1), (0, True), (None,), ((0,),), Row((0,)), Ratio(1))
MACHINES = (flip(), flip() >> 1, carry(), ~carry(), third(), move(3, 1), move(2, -2), same(3), wall())


def some_word(chance, machine, length):
    return tuple(chance.randrange(machine.signs) for _ in range(length))


def plain_pasts(machine, word):
    """All pasts, by a search through all in words."""
    r, rule = machine.reach, machine.rule
    words = itertools.product(range(machine.signs), repeat=len(word) + 2 * r)
    return [past for past in words if rule.on_word(past)[r + rule.low:r + rule.low + len(word)] == word]


class Pasts(Case):
    def test_as_a_plain_search_says(self):
        chance = random.Random(1)
        for machine in MACHINES:
            for length in range(5):
                if machine.signs ** (length + 2 * machine.reach) > 5000:
                    continue
                word = some_word(chance, machine, length)
                told = plain_pasts(machine, word)
                self.assertEqual(list(pasts(machine, word)), told)
                self.assertEqual(past_count(machine, word), len(told))
                self.assertEqual(len(told), machine.signs ** (2 * machine.reach))

    def test_long_words(self):
        chance = random.Random(2)
        for machine in MACHINES:
            for length in (39, 40):
                word = some_word(chance, machine, length)
                told = list(pasts(machine=machine, word=word))
                self.assertEqual(told, sorted(set(told)))
                self.assertEqual(past_count(machine=machine, word=word), len(told))
                for past in told[:20]:
                    self.assertEqual(len(past), length + 2 * machine.reach)
                    row = machine.step(Row((0,), past, (0,), start=-machine.reach))
                    self.assertEqual(row.word(0, length), word)

    def test_example(self):
        told = list(pasts(carry(), (0, 1, 2, 3)))
        self.assertEqual((len(told), {len(past) for past in told}), (16, {6}))

    def test_errors_come_with_the_first_item(self):
        for wrong in (*NO_WORDS, (0,) * 41):
            found = pasts(flip(), wrong)
            self.fails(InvalidWord, (wrong,), next, found)
            self.fails(InvalidWord, (wrong,), past_count, flip(), wrong)
            self.fails(InvalidWord, (wrong,), fringes, flip(), wrong)
            self.fails(InvalidWord, (wrong,), told_cells, flip(), wrong)
        self.fails(InvalidWord, ((4,),), past_count, carry(), (4,))
        self.assertEqual(past_count(carry(), (3,) * 40), 16)


class Fringes(Case):
    def test_each_with_each(self):
        chance = random.Random(3)
        for machine in MACHINES:
            r = machine.reach
            for length in (4 * r, 4 * r + 1, 4 * r + 5, 40):
                word = some_word(chance, machine, length)
                left, right = fringes(machine, word)
                self.assertEqual((len(left), len(right)), (machine.left, machine.right))
                self.assertEqual((left, right), (sorted(set(left)), sorted(set(right))))
                told = told_cells(machine, word)
                self.assertEqual(len(told), length - 2 * r)
                made = sorted(one + told + other for one in left for other in right)
                self.assertEqual(list(pasts(machine, word)), made)

    def test_example(self):
        left, right = fringes(carry(), (0, 1, 2, 3))
        self.assertEqual([past_count(carry(), (0, 1, 2, 3)), len(left), len(right)], [16, 2, 8])
        self.assertIs(type(fringes(machine=carry(), word=(0, 1, 2, 3))), tuple)

    def test_one_cell_less(self):
        for machine in MACHINES:
            least = 4 * machine.reach
            self.assertEqual(len(fringes(machine, (0,) * least)), 2)
            for length in range(least):
                self.fails(TooNarrow, (0, least), fringes, machine, (0,) * length)
        self.fails(InvalidWord, ((2,),), fringes, flip(), (2,))

    def test_without_reach(self):
        for machine in (same(3), wall()):
            self.assertEqual(fringes(machine, ()), ([()], [()]))
            self.assertEqual(fringes(machine, (0, 0)), ([()], [()]))
            self.assertEqual(list(pasts(machine, (0, 0))), [(0, 0)])
            self.assertEqual(list(pasts(machine, ())), [()])
            self.assertEqual((told_cells(machine, ()), past_count(machine, ())), ((), 1))


class ToldCells(Case):
    def test_what_all_pasts_have(self):
        chance = random.Random(4)
        for machine in MACHINES:
            r = machine.reach
            for length in range(2 * r + 4):
                word = some_word(chance, machine, length)
                told = told_cells(machine=machine, word=word)
                self.assertEqual(len(told), max(0, length - 2 * r))
                for past in pasts(machine, word):
                    self.assertEqual(past[2 * r:2 * r + len(told)], told)

    def test_too_few_cells(self):
        for length in range(5):
            self.assertEqual(told_cells(flip(), (1,) * length), ())
        self.assertEqual(told_cells(flip(), (0, 0, 1, 1, 0)), flip().back.on_word((0, 0, 1, 1, 0))[1:2])


if __name__ == "__main__":
    unittest.main()
