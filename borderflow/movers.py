"""Movers: tracks that move beside a machine, so that the flow of all together is 1."""

from borderflow.machines import known_machine
from borderflow.rules import move_rule


def movers(machine):
    """The pair (q, p) for a machine with the flow p / q."""
    return machine.flow.bottom, machine.flow.top


def with_movers(machine):
    """The machine beside a track of q signs that move to the right and one of p signs that move to the left."""
    q, p = movers(machine)
    rule = machine.rule * move_rule(q, 1)
    back = machine.back * move_rule(q, -1)
    return known_machine(rule * move_rule(p, -1), back * move_rule(p, 1))
