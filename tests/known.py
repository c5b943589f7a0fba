"""Machines and rules that several tests use as examples."""

from borderflow.machines import Machine
from borderflow.rules import Rule
from tests.cases import CARRY, FLIP, THIRD


def flip():
    return Machine(Rule(2, -1, 2, FLIP))


def carry():
    return Machine(Rule(4, -1, 0, CARRY))


def third():
    return Machine(Rule(6, 0, 1, THIRD))


def chain(tracks):
    """The rule of bits b1, .., bm in which each but the last gets the next one of the right neighbour added."""
    signs = 2 ** tracks
    table = [here ^ (right << 1) % signs for here in range(signs) for right in range(signs)]
    return Rule(signs, 0, 1, table)
