"""Exchanges: points [25], [26], [27] and the interface of borderflow/exchanges.py."""

import itertools
import random
import unittest

from borderflow.errors import InvalidNumber, InvalidTable, NotAllowed, TooMany, UnlikeGrounds
from borderflow.exchanges import Exchange, clash, swap_signs
from borderflow.grounds import Ground
from borderflow.ratios import Ratio
from borderflow.rows import Row
from tests.cases import Case

ANYTHING = (None, True, False, "", "2", (), [], (None,), (True, 2), Row((0,)), Ratio(2))
TWO = Ground(2)
MIXED = Ground(3, (0, 2), (3, 1), (5, 4))
NOTHING = Exchange(TWO, 0, 0, (0,))
# of the cells 0, 1 and 2 the first one says whether the third one is exchanged
GUARDED = Exchange(TWO, 0, 3, (0, 1, 2, 3, 5, 4, 7, 6))


def range_list(count):
    return list(range(count))


def shuffled(chance, count):
    table = list(range(count))
    chance.shuffle(table)
    return table


def some_exchange(chance, ground, most=3):
    start = chance.randint(-3, 3)
    end = start + chance.randint(0, most)
    table = shuffled(chance, ground.word_count(start, end))
    if chance.random() < 0.4:
        one, other = chance.choice(table), chance.choice(table)
        table = list(range(len(table)))
        table[one], table[other] = other, one
    return Exchange(ground, start, end, table)


def fitting_row(chance, ground):
    signs = min(ground[-20], ground[20])
    word = tuple(chance.randrange(ground[cell]) for cell in range(-8, 8))
    return Row((chance.randrange(signs),), word, (chance.randrange(signs),), start=-8)


def plain_words(ground, first, end):
    return list(itertools.product(*[range(ground[cell]) for cell in range(first, end)]))


def plain_form(ground, start, end, table):
    """The start, the end and the core of the least form, by the words of point [26] alone."""
    words = plain_words(ground, start, end)
    new = {word: words[item] for word, item in zip(words, table)}
    cells = range(end - start)
    changed = [at for at in cells if any(word[at] != new[word][at] for word in words)]
    if not changed:
        return 0, 0, (0, 0)
    first, last = changed[0], changed[-1]
    telling = list(changed)
    for at in cells:
        if first <= at <= last:
            continue
        for one in words:
            for sign in range(ground[start + at]):
                other = (*one[:at], sign, *one[at + 1:])
                differ = [k for k in cells if k != at and new[one][k] != new[other][k]]
                if differ:
                    telling.append(at)
    return start + min(telling), start + max(telling) + 1, (start + first, start + last + 1)


class LeastForm(Case):
    def test_attributes(self):
        exchange = Exchange(MIXED, -1, 3, shuffled(random.Random(1), 24))
        self.assertEqual((exchange.ground, exchange.start, exchange.end), (MIXED, -1, 3))
        self.assertEqual((exchange.table, exchange.core), (tuple(shuffled(random.Random(1), 24)), (-1, 3)))
        self.assertEqual(repr(exchange), "Exchange(-1 to 3)")
        self.assertEqual(Exchange(ground=TWO, start=0, end=1, table=[1, 0]).table, (1, 0))

    def test_what_changes_nothing(self):
        for exchange in (
            NOTHING, Exchange(TWO, 5, 5, [0]), Exchange(TWO, -2, 2, range_list(16)), Exchange(MIXED, 3, 5, (0,)),
            Exchange(MIXED, -9999, -9999, (0,)), Exchange(Ground(1), -9999, 9999, [0]),
        ):
            self.assertEqual((exchange.start, exchange.end, exchange.core, exchange.table), (0, 0, (0, 0), (0,)))
            self.assertIs(exchange.is_empty(), True)
            self.assertEqual(repr(exchange), "Exchange(0 to 0)")
        self.assertIs(GUARDED.is_empty(), False)

    def test_cells_that_do_not_count(self):
        # cell 1 alone is exchanged, told with a cell on either side
        table = [index ^ 2 for index in range(8)]
        exchange = Exchange(TWO, 4, 7, table)
        self.assertEqual((exchange.start, exchange.end, exchange.core, exchange.table), (5, 6, (5, 6), (1, 0)))
        self.assertEqual(exchange, Exchange(TWO, 5, 6, (1, 0)))

    def test_guard_cells(self):
        self.assertEqual((GUARDED.start, GUARDED.end, GUARDED.core), (0, 3, (2, 3)))
        self.assertEqual(GUARDED.table, (0, 1, 2, 3, 5, 4, 7, 6))
        # a guard on the right, and a cell that does not count on either side
        guarded = Exchange(TWO, 0, 4, [index ^ 4 if index & 2 else index for index in range(16)])
        self.assertEqual((guarded.start, guarded.end, guarded.core, guarded.table), (1, 3, (1, 2), (0, 3, 2, 1)))

    def test_cells_with_one_sign(self):
        exchange = Exchange(MIXED, 2, 6, (4, 1, 2, 3, 0, 5, 6, 7))
        self.assertEqual((exchange.start, exchange.end, exchange.core), (2, 6, (2, 3)))
        exchange = Exchange(MIXED, 2, 6, (7, 1, 2, 3, 4, 5, 6, 0))
        self.assertEqual((exchange.start, exchange.end, exchange.core), (2, 6, (2, 6)))
        exchange = Exchange(MIXED, 2, 6, (1, 0, 2, 3, 5, 4, 6, 7))
        self.assertEqual((exchange.start, exchange.end, exchange.core, exchange.table), (5, 6, (5, 6), (1, 0, 2, 3)))

    def test_a_cell_that_does_not_change_between_two_that_do(self):
        exchange = Exchange(TWO, 0, 3, [index ^ 5 for index in range(8)])
        self.assertEqual((exchange.start, exchange.end, exchange.core), (0, 3, (0, 3)))

    def test_as_a_plain_search_says(self):
        chance = random.Random(2)
        for ground in (TWO, MIXED, Ground(3)):
            for _ in range(60):
                start = chance.randint(-3, 2)
                end = start + chance.randint(0, 4)
                count = ground.word_count(start, end)
                if count > 200:
                    continue
                inner = some_exchange(chance, ground, 2)
                table = shuffled(chance, count)
                if inner.start >= start and inner.end <= end and not inner.is_empty():
                    words = plain_words(ground, start, end)
                    table = [
                        ground.number_of(start, changed_word(inner, word, start)) for word in words
                    ]
                exchange = Exchange(ground, start, end, table)
                told = plain_form(ground, start, end, table)
                self.assertEqual((exchange.start, exchange.end, exchange.core), told)

    def test_lists_are_copied(self):
        table = [1, 0]
        exchange = Exchange(TWO, 0, 1, table)
        table[0] = 0
        self.assertEqual(exchange.table, (1, 0))


def changed_word(exchange, word, first):
    """A word with an exchange done in it."""
    start = exchange.start - first
    end = exchange.end - first
    words = plain_words(exchange.ground, exchange.start, exchange.end)
    return (*word[:start], *words[exchange.table[words.index(word[start:end])]], *word[end:])


class Errors(Case):
    def test_wrong_starts_and_ends(self):
        for value in (*ANYTHING, -10000, 10000):
            self.fails(InvalidNumber, (value,), Exchange, TWO, value, None, None)
            self.fails(InvalidNumber, (value,), Exchange, TWO, -9999, value, None)
        self.fails(InvalidNumber, (4,), Exchange, TWO, 5, 4, (0,))
        self.fails(InvalidNumber, (9998,), Exchange, TWO, 9999, 9998, (0,))

    def test_limit_of_words(self):
        self.assertEqual(Exchange(TWO, 0, 12, range_list(4096)[::-1]).end, 12)
        self.fails(TooMany, ("words", 8192), Exchange, TWO, 0, 13, None)
        self.fails(TooMany, ("words", 3 ** 999 * 8 * 4 ** 994), Exchange, MIXED, -999, 999, None)
        with self.assertRaises(TooMany) as caught:
            Exchange(MIXED, -9999, 9999, None)
        self.assertEqual(caught.exception.count, 3 ** 9999 * 8 * 4 ** 9994)
        self.assertEqual(Exchange(MIXED, 2, 10, [*range_list(2046), 2047, 2046]).order(), 2)

    def test_wrong_tables(self):
        for value in (*ANYTHING, 4, (0, 1, 2), [0, 1, 2, 3, 4], range(4), "0123", {0: 0, 1: 1, 2: 2, 3: 3}):
            self.fails(InvalidTable, (-1,), Exchange, TWO, 0, 2, value)
        for item in (*ANYTHING, -1, 4, 0, 1):
            for kind in (list, tuple):
                self.fails(InvalidTable, (2,), Exchange, TWO, 0, 2, kind([1, 0, item, item]))
        self.fails(InvalidTable, (0,), Exchange, TWO, 3, 3, (1,))
        self.fails(InvalidTable, (-1,), Exchange, TWO, 3, 3, ())

    def test_order_of_errors(self):
        self.fails(InvalidNumber, (None,), Exchange, TWO, None, None, None)
        self.fails(InvalidNumber, (10000,), Exchange, TWO, 0, 10000, None)
        self.fails(TooMany, ("words", 8192), Exchange, TWO, -13, 0, [0, 0])
        self.fails(InvalidTable, (1,), Exchange, TWO, 0, 2, [0, 0, 9, None])


class Applied(Case):
    def test_words_are_put_in_place(self):
        self.assertEqual(GUARDED.applied(Row((0,), (1, 0, 1), (0,))), Row((0,), (1,), (0,)))
        self.assertEqual(GUARDED.applied(row=Row((0,), (0, 0, 1), (0,))), Row((0,), (0, 0, 1), (0,)))
        self.assertEqual(GUARDED.applied(Row((1,))), Row((1,), (0,), (1,), start=2))
        self.assertEqual(NOTHING.applied(Row((5,))), Row((5,)))

    def test_all_words(self):
        chance = random.Random(3)
        for ground in (TWO, MIXED):
            for _ in range(20):
                start = chance.randint(-3, 3)
                end = start + chance.randint(0, 4)
                table = shuffled(chance, ground.word_count(start, end))
                exchange = Exchange(ground, start, end, table)
                words = plain_words(ground, start, end)
                for word, item in zip(words, table):
                    row = fitting_row(chance, ground).changed(start, word)
                    self.assertEqual(exchange.applied(row), row.changed(start, words[item]))

    def test_signs_that_do_not_fit(self):
        self.fails(NotAllowed, (2, 0), GUARDED.applied, Row((2,)))
        self.fails(NotAllowed, (3, 1), GUARDED.applied, Row((0,), (1, 3, 2), (0,)))
        self.fails(NotAllowed, (2, -2), Exchange(TWO, -2, 2, range_list(16)[::-1]).applied, Row((2,)))
        self.fails(NotAllowed, (1, 3), Exchange(MIXED, 2, 6, range_list(8)[::-1]).applied, Row((1,)))
        # only the stretch has to fit
        self.assertEqual(GUARDED.applied(Row((9,), (1, 1, 1), (9,))), Row((9,), (1, 1, 0), (9,)))
        self.assertEqual(Exchange(MIXED, 5, 6, (3, 1, 2, 0)).applied(Row((0,), (3,), (9,), start=5))[5], 0)
        self.assertEqual(Exchange(TWO, 0, 3, [index ^ 2 for index in range(8)]).applied(Row((9,), (9, 0), (9,)))[1], 1)


class Behind(Case):
    def test_one_then_other(self):
        chance = random.Random(4)
        for ground in (TWO, MIXED):
            for _ in range(60):
                one, other = some_exchange(chance, ground), some_exchange(chance, ground)
                if ground.word_count(min(one.start, other.start), max(one.end, other.end)) > 4096:
                    continue
                both = one + other
                self.assertIs(type(both), Exchange)
                for _ in range(5):
                    row = fitting_row(chance, ground)
                    self.assertEqual(both.applied(row), other.applied(one.applied(row)))
                again = Exchange(ground, both.start, both.end, both.table)
                self.assertEqual((again.start, again.end, again.core), (both.start, both.end, both.core))

    def test_least_form_behind_one_another(self):
        one = Exchange(TWO, 0, 1, (1, 0))
        self.assertEqual(one + one, NOTHING)
        far = Exchange(TWO, 9, 10, (1, 0))
        self.assertEqual(((one + far).start, (one + far).end), (0, 10))
        self.assertEqual(one + far + one, far)
        self.assertEqual(GUARDED + GUARDED, NOTHING)

    def test_what_changes_nothing_needs_no_words(self):
        far = Exchange(TWO, 9998, 9999, (1, 0))
        self.assertEqual(NOTHING + far, far)
        self.assertEqual(far + NOTHING, far)
        self.assertEqual(NOTHING + NOTHING, NOTHING)

    def test_errors(self):
        one = Exchange(TWO, 0, 1, (1, 0))
        self.assertEqual((one + Exchange(TWO, 11, 12, (1, 0))).end, 12)
        self.fails(TooMany, ("words", 8192), one.__add__, Exchange(TWO, 12, 13, (1, 0)))
        self.fails(TooMany, ("words", 2 ** 9999), one.__add__, Exchange(TWO, 9998, 9999, (1, 0)))
        self.fails(UnlikeGrounds, (), one.__add__, Exchange(MIXED, 0, 1, (1, 0)))
        self.fails(UnlikeGrounds, (), NOTHING.__add__, Exchange(MIXED, 0, 0, (0,)))
        self.fails(UnlikeGrounds, (), one.__add__, Exchange(Ground(2, (9999, 3)), 12, 13, (1, 0)))

    def test_undone(self):
        chance = random.Random(5)
        for _ in range(20):
            exchange = some_exchange(chance, MIXED)
            self.assertEqual(exchange + ~exchange, Exchange(MIXED, 0, 0, (0,)))
            self.assertEqual(~~exchange, exchange)
            row = fitting_row(chance, MIXED)
            self.assertEqual((~exchange).applied(exchange.applied(row)), row)
        self.assertEqual((~Exchange(TWO, 0, 2, (1, 2, 3, 0))).table, (3, 0, 1, 2))
        self.assertEqual(((~GUARDED).start, (~GUARDED).core), (0, (2, 3)))

    def test_powers(self):
        turn = Exchange(TWO, 0, 2, (1, 2, 3, 0))
        for power in (turn.raised, turn.__pow__):
            self.assertEqual(power(0), NOTHING)
            self.assertEqual(power(1), turn)
            self.assertEqual(power(2).table, (1, 0))
            self.assertEqual((power(2).start, power(2).end), (0, 1))
            self.assertEqual(power(3), ~turn)
            self.assertEqual(power(400), NOTHING)
            self.assertEqual(power(399), ~turn)
            for value in (*ANYTHING, -1, 401):
                self.fails(InvalidNumber, (value,), power, value)
        self.assertEqual(turn ** 5, turn)
        self.assertEqual(turn.raised(k=6), turn + turn)
        self.assertEqual(NOTHING ** 400, NOTHING)

    def test_orders(self):
        self.assertEqual((NOTHING.order(), GUARDED.order()), (1, 2))
        self.assertEqual(Exchange(TWO, 0, 3, (1, 2, 0, 4, 3, 5, 6, 7)).order(), 6)
        # cycles of unlike prime lengths
        table = []
        for length in (2, 3, 5, 7, 11, 13, 17, 19, 23, 29, 31, 37, 41, 43, 47, 53, 59):
            table += [len(table) + (at + 1) % length for at in range(length)]
        table += range(len(table), 512)
        self.assertEqual(Exchange(TWO, 0, 9, table).order(), 1922760350154212639070)

    def test_equal(self):
        self.assertTrue(GUARDED == Exchange(TWO, 0, 4, [0, 1, 2, 3, 4, 5, 6, 7, 10, 11, 8, 9, 14, 15, 12, 13]))
        for other in (
            NOTHING, Exchange(TWO, 1, 4, GUARDED.table), Exchange(TWO, 0, 3, (1, 0, 3, 2, 4, 5, 6, 7)),
            Exchange(Ground(2, (3, 3)), 0, 3, GUARDED.table), Exchange(TWO, 0, 2, (1, 2, 3, 0)),
        ):
            self.assertFalse(GUARDED == other)
            self.assertTrue(GUARDED != other)
        self.assertFalse(NOTHING == Exchange(Ground(3), 0, 0, (0,)))
        # one number of words, on unlike stretches
        self.assertFalse(Exchange(MIXED, 3, 6, (1, 0, 3, 2)) == Exchange(MIXED, 5, 6, (1, 0, 2, 3)))
        for value in (None, 0, (0, 1), "Exchange(0 to 3)", TWO, Row((0,))):
            self.assertFalse(GUARDED == value)


class Clashes(Case):
    def test_orders_that_do_the_same(self):
        one = Exchange(TWO, 0, 1, (1, 0))
        self.assertIsNone(clash(one, one))
        self.assertIsNone(clash(GUARDED, Exchange(TWO, 1, 2, (1, 0))))
        self.assertIsNone(clash(GUARDED, Exchange(TWO, 2, 3, (1, 0))))
        self.assertIsNone(clash(one=NOTHING, other=GUARDED))
        # one cell in common that is a guard of both
        self.assertIsNone(clash(GUARDED, Exchange(TWO, -1, 1, (0, 3, 2, 1))))

    def test_orders_that_do_not(self):
        # the guard of the second one is exchanged by the first one
        self.assertEqual(clash(Exchange(TWO, 0, 1, (1, 0)), GUARDED), (0, (0, 0, 0)))
        self.assertEqual(clash(GUARDED, Exchange(TWO, 2, 5, (0, 1, 2, 3, 5, 4, 7, 6))), (0, (1, 0, 0, 0, 0)))

    def test_as_a_plain_search_says(self):
        chance = random.Random(6)
        found = 0
        for ground in (TWO, MIXED):
            for _ in range(80):
                one, other = some_exchange(chance, ground), some_exchange(chance, ground)
                first, end = min(one.start, other.start), max(one.end, other.end)
                if one.is_empty() or other.is_empty() or ground.word_count(first, end) > 300:
                    continue
                told = None
                for word in plain_words(ground, first, end):
                    there = changed_word(other, changed_word(one, word, first), first)
                    if there != changed_word(one, changed_word(other, word, first), first):
                        told = first, word
                        break
                self.assertEqual(clash(one, other), told)
                found += told is not None
        self.assertGreater(found, 10)

    def test_errors(self):
        one = Exchange(TWO, 0, 12, range_list(4096)[::-1])
        self.assertIsNone(clash(one, Exchange(TWO, 12, 24, one.table)))
        self.assertIsNone(clash(Exchange(TWO, 12, 24, one.table), one))
        self.fails(TooMany, ("words", 2 ** 23), clash, one, Exchange(TWO, 11, 23, one.table))
        self.fails(TooMany, ("words", 2 ** 13), clash, one, Exchange(TWO, -1, 1, (0, 2, 1, 3)))
        self.fails(UnlikeGrounds, (), clash, one, Exchange(MIXED, 0, 1, (1, 0)))
        self.fails(UnlikeGrounds, (), clash, NOTHING, Exchange(MIXED, 0, 0, (0,)))
        self.assertIsNone(clash(NOTHING, one))


class Signs(Case):
    def test_two_signs_of_a_cell(self):
        exchange = swap_signs(MIXED, 5, 1, 3)
        self.assertEqual((exchange.start, exchange.end, exchange.core, exchange.table), (5, 6, (5, 6), (0, 3, 2, 1)))
        self.assertEqual(swap_signs(ground=MIXED, cell=5, one=3, other=1), exchange)
        self.assertEqual(swap_signs(MIXED, 5, 2, 2), Exchange(MIXED, 0, 0, (0,)))
        self.assertEqual(swap_signs(MIXED, 4, 0, 0), Exchange(MIXED, 0, 0, (0,)))
        self.assertEqual(swap_signs(MIXED, -9999, 0, 2).table, (2, 1, 0))

    def test_wrong_signs(self):
        for value in (*ANYTHING, -1, 3):
            self.fails(NotAllowed, (value, -1), swap_signs, MIXED, -1, value, None)
            self.fails(NotAllowed, (value, -1), swap_signs, MIXED, -1, 2, value)
        self.fails(NotAllowed, (1, 4), swap_signs, MIXED, 4, 1, 2)
        self.fails(NotAllowed, (2, 0), swap_signs, MIXED, 0, 0, 2)


if __name__ == "__main__":
    unittest.main()
