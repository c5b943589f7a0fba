"""Machines: rules that lose nothing, with their backs."""

from borderflow.backs import back_rule
from borderflow.basics import check_limit, power_of
from borderflow.errors import InvalidNumber, Loses, NotBack, UnlikeSigns
from borderflow.meeting import meeting_rings
from borderflow.ratios import Ratio
from borderflow.rules import move_rule, same_rule
from borderflow.shapes import grouped, mirrored, renamed
from borderflow.sides import side_count
from borderflow.words import is_number

MOST_TIMES = 12


class Machine:
    """A rule that loses nothing, with its back and its flow."""

    def __init__(self, rule):
        rings = meeting_rings(rule)
        if rings is not None:
            raise Loses(rings[0], rings[1])
        back = back_rule(rule)
        reach = checked_reach(rule, back)
        self.rule = rule
        self.back = back
        self.signs = rule.signs
        self.reach = reach
        self.left = side_count(rule, reach, "left")
        self.right = side_count(rule, reach, "right")
        self.flow = Ratio(self.right, power_of(rule.signs, reach))

    def step(self, row):
        """The next row."""
        return self.rule.step(row)

    def unstep(self, row):
        """The row before."""
        return self.back.step(row)

    def ring_step(self, ring):
        """The next ring."""
        return self.rule.ring_step(ring)

    def ring_unstep(self, ring):
        """The ring before."""
        return self.back.ring_step(ring)

    def __add__(self, other):
        if not isinstance(other, Machine):
            return NotImplemented
        return known_machine(self.rule + other.rule, other.back + self.back)

    def __mul__(self, other):
        if not isinstance(other, Machine):
            return NotImplemented
        return known_machine(self.rule * other.rule, self.back * other.back)

    def __rshift__(self, other):
        return known_machine(self.rule >> other, self.back << other)

    def __lshift__(self, other):
        return known_machine(self.rule << other, self.back >> other)

    def __invert__(self):
        return known_machine(self.back, self.rule)

    def raised(self, k):
        """The machine k times; below 0 its back."""
        if not is_number(k, -MOST_TIMES, MOST_TIMES):
            raise InvalidNumber(k)
        if k == 0:
            return same(self.signs)
        once = self if k > 0 else ~self
        machine = once
        for _ in range(abs(k) - 1):
            machine = machine + once
        return machine

    def __pow__(self, other):
        return self.raised(other)

    def __eq__(self, other):
        if not isinstance(other, Machine):
            return NotImplemented
        return self.rule == other.rule

    def mirrored(self):
        """The machine that does the same to mirrored rows."""
        return known_machine(mirrored(self.rule), mirrored(self.back))

    def renamed(self, names):
        """The machine in which the item s of names stands in the place of the sign s."""
        return known_machine(renamed(self.rule, names), renamed(self.back, names))

    def grouped(self, m):
        """The machine for m cells put together."""
        return known_machine(grouped(self.rule, m), grouped(self.back, m))

    def __repr__(self):
        return f"Machine({self.signs} signs, flow {self.flow})"


def checked_reach(rule, back):
    """The reach of a machine; raises TooMany if there would be too many halves."""
    reach = max(0, -rule.low, rule.high, -back.low, back.high)
    check_limit("halves", power_of(rule.signs, 2 * reach))
    return reach


def known_machine(rule, back):
    """The machine with a rule and a back that is known to lead back."""
    reach = checked_reach(rule, back)
    machine = Machine(same_rule(1))
    machine.rule = rule
    machine.back = back
    machine.signs = rule.signs
    machine.reach = reach
    machine.left = side_count(rule, reach, "left")
    machine.right = side_count(rule, reach, "right")
    machine.flow = Ratio(machine.right, power_of(rule.signs, reach))
    return machine


def machine_of(rule, back):
    """The machine with a rule and its back."""
    if not leads_back(rule, back):
        raise NotBack()
    return known_machine(rule, back)


def leads_back(rule, back):
    """Whether a second rule leads from the new row to the old one."""
    if rule.signs != back.signs:
        raise UnlikeSigns(rule.signs, back.signs)
    check_limit("words", power_of(rule.signs, rule.width + back.width - 1))
    return rule + back == same_rule(rule.signs)


def wall():
    """The machine of one sign."""
    return same(1)


def same(signs):
    """The machine that changes nothing."""
    return known_machine(same_rule(signs), same_rule(signs))


def move(signs, d):
    """The machine that moves all signs by d cells to the right."""
    return known_machine(move_rule(signs, d), move_rule(signs, -d))
