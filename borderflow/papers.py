"""Papers: tuples that show a fact by themselves."""

from borderflow.basics import power_of
from borderflow.carrying import carry
from borderflow.errors import BorderError
from borderflow.exchanges import Exchange
from borderflow.halves import halves
from borderflow.lots import are_closed, lots
from borderflow.machines import leads_back, machine_of
from borderflow.meeting import meeting_rings, rings_meet
from borderflow.names import LETTERS
from borderflow.ratios import count_ratio
from borderflow.rules import Rule, new_sign
from borderflow.seams import Seam
from borderflow.seen import Seen
from borderflow.shapes import first_unlike
from borderflow.words import is_word_of


def is_right(value):
    """Whether any value is a right paper."""
    if not isinstance(value, tuple) or len(value) == 0:
        return False
    items = value[1:]
    try:
        return shows(value[0], items)
    except BorderError:
        return False


def shows(kind, items):
    """Whether these items behind the first word of a paper show what it says; an error of the package says no, too."""
    if kind == "back" and len(items) == 2:
        return are_rules(items) and leads_back(items[0], items[1])
    if kind == "loses" and len(items) == 3:
        return are_rules(items[:1]) and rings_meet(items[0], items[1], items[2])
    if kind == "flow" and len(items) == 5:
        return are_rules(items[:2]) and shows_flow(machine_of(items[0], items[1]), items[2], items[3], items[4])
    if kind == "seam" and len(items) == 5:
        return are_rules(items[:4]) and shows_seam(items)
    if kind == "unlike" and len(items) == 3:
        return are_rules(items[:2]) and shows_unlike(items[0], items[1], items[2])
    if kind == "exchange" and len(items) == 4:
        return are_rules(items[:2]) and shows_carried(machine_of(items[0], items[1]), items[2], items[3])
    if kind == "lots" and len(items) == 5:
        return are_rules(items[:2]) and shows_lots(machine_of(items[0], items[1]), items[2], items[3], items[4])
    return False


def are_rules(values):
    """Whether some values are rules throughout."""
    return all([isinstance(value, Rule) for value in values])


def shows_flow(machine, context, told, flow):
    """Whether these are a context, the tuple of all right halves for it, and the flow that their number tells."""
    if not isinstance(told, tuple):
        return False
    if not all([is_word_of(word, machine.signs, 2 * machine.reach) for word in told]):
        return False
    if list(told) != halves(machine, context, side="right"):
        return False
    return flow == count_ratio(len(told), power_of(machine.signs, machine.reach))


def shows_seam(items):
    """Whether these are two rules, each with its back behind it, and a matching for the seam of their machines."""
    one = machine_of(items[0], items[1])
    other = machine_of(items[2], items[3])
    if not isinstance(items[4], tuple):
        return False
    # raises an error if the flows differ, or if this is no matching
    Seam(one, other, matching=items[4])
    return True


def shows_unlike(rule, other, word):
    """Whether the new signs of two rules for a word of the hull of their windows differ."""
    low = min(rule.low, other.low)
    high = max(rule.high, other.high)
    if rule.signs != other.signs or not is_word_of(word, rule.signs, high - low + 1):
        return False
    return new_sign(rule, word, low) != new_sign(other, word, low)


def shows_carried(machine, exchange, carried):
    """Whether these are two exchanges, and the second one is the first one carried over a tick."""
    return isinstance(exchange, Exchange) and carry(exchange, machine) == carried


def shows_lots(machine, sayings, tick, told):
    """Whether these are sayings, a tick and closed lots for them of which the last one is empty."""
    if not isinstance(sayings, tuple) or not all([is_told_saying(saying) for saying in sayings]):
        return False
    if not isinstance(told, tuple) or not all([isinstance(lot, tuple) for lot in told]):
        return False
    seen = Seen(machine)
    # more sayings than letters raise an error long before the letters are used up
    for name, (cell, saying_tick, signs) in zip(LETTERS, sayings):
        seen.say(name, cell, saying_tick, *signs)
        if seen.sayings()[-1][3] != signs:
            return False
    return are_closed(seen, told, tick) and told[-1] == ()


def is_told_saying(value):
    """Whether any value has the form of a saying of a paper: a tuple (cell, tick, signs) with a tuple of signs."""
    return isinstance(value, tuple) and len(value) == 3 and isinstance(value[2], tuple)


def back_paper(machine):
    """The paper that shows that the back of a machine leads back."""
    return ("back", machine.rule, machine.back)


def loses_paper(rule):
    """The paper with the least meeting pair of a rule, None if the rule loses nothing."""
    rings = meeting_rings(rule)
    return None if rings is None else ("loses", rule, *rings)


def flow_paper(machine, context):
    """The paper that shows the flow of a machine by the right halves for a context."""
    told = tuple(halves(machine, context, side="right"))
    return ("flow", machine.rule, machine.back, context, told, machine.flow)


def seam_paper(seam):
    """The paper that shows that the machines of a seam can be joined."""
    return ("seam", seam.one.rule, seam.one.back, seam.other.rule, seam.other.back, seam.matching)


def unlike_paper(one, other):
    """The paper with the least word that tells two rules apart, None for equal rules."""
    told = first_unlike(one, other)
    return None if told is None else ("unlike", one, other, told[1])


def carry_paper(exchange, machine):
    """The paper that shows an exchange carried over a tick of a machine."""
    return ("exchange", machine.rule, machine.back, exchange, carry(exchange, machine))


def lots_paper(seen, tick=0):
    """The paper with the lots of a seen set, None if the set stands."""
    told = tuple([tuple(lot) for lot in lots(seen, tick)])
    if told[-1] != ():
        return None
    sayings = tuple([(cell, saying_tick, signs) for _, cell, saying_tick, signs in seen.sayings()])
    return ("lots", seen.machine.rule, seen.machine.back, sayings, tick, told)
