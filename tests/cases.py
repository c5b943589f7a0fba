"""What the tests share: a test case that looks at errors, tables of examples, and slow but plain counterparts."""

import inspect
import itertools
import unittest

from borderflow.rows import Row
from borderflow.rules import Rule

FLIP = (0, 0, 1, 0, 1, 1, 0, 1, 0, 0, 0, 0, 1, 1, 1, 1)
CARRY = (0, 1, 0, 1, 0, 1, 0, 1, 3, 2, 3, 2, 3, 2, 3, 2)
THIRD = tuple(3 * (here // 3) + right % 3 for here in range(6) for right in range(6))


def words(length, signs):
    return list(itertools.product(range(signs), repeat=length))


def some_rule(chance, signs=None, widest=3):
    signs = chance.randint(1, 3) if signs is None else signs
    low = chance.randint(-3, 2)
    high = low + chance.randint(0, widest - 1)
    return Rule(signs, low, high, [chance.randrange(signs) for _ in range(signs ** (high - low + 1))])


def some_row(chance, signs):
    def word(least):
        return tuple(chance.randrange(signs) for _ in range(chance.randint(least, 4)))

    return Row(word(1), word(0), word(1), start=chance.randint(-9, 9))


def plain_ring_step(rule, ring):
    """The next ring by the words of point [8] alone."""
    size = len(ring)
    new = []
    for at in range(size):
        index = 0
        for k in range(rule.low, rule.high + 1):
            index = index * rule.signs + ring[(at + k) % size]
        new.append(rule.table[index])
    return tuple(new)


class Case(unittest.TestCase):
    def fails(self, error, told, call, *given, **named):
        """Checks that a call raises just this error, with these values in the order of its parameters."""
        with self.assertRaises(error) as caught:
            call(*given, **named)
        self.shows(error, told, caught.exception)

    def shows(self, error, told, found):
        self.assertIs(type(found), error)
        self.assertEqual(found.code, error.__name__)
        names = list(inspect.signature(error).parameters)
        values = tuple(getattr(found, name) for name in names)
        # the reprs tell True from 1, too
        self.assertEqual(repr(values), repr(told))
