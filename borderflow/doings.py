"""What the deeds of a workshop do: how they are checked, and the thing that each of them makes."""

from borderflow.carrying import carry
from borderflow.errors import InvalidDeed, InvalidName, InvalidNumber, InvalidThing, UnknownName, WrongThing
from borderflow.exchanges import Exchange
from borderflow.floors import Closed, Floor
from borderflow.machines import Machine
from borderflow.names import is_among, is_name
from borderflow.programs import Program
from borderflow.rows import Row
from borderflow.seen import Seen
from borderflow.words import is_number

# how many items the tuples of the deeds have
ITEMS = {"put": 3, "drop": 2, "tick": 4, "edit": 3, "carry": 4, "join": 4, "end": 4, "say": 6, "unsay": 3}
GIVING = ("put", "join", "end")
# the places of the names of things in the other deeds, with the kinds of these things
NEEDS = {
    "put": (),
    "drop": ((1, "thing"),),
    "tick": ((1, "row"), (2, "stepper")),
    "edit": ((1, "row"), (2, "exchange")),
    "carry": ((1, "exchange"), (2, "machine")),
    "join": ((2, "machine"), (3, "machine")),
    "end": ((2, "machine"),),
    "say": ((1, "seen"),),
    "unsay": ((1, "seen"),),
}
MOST_COUNTS = {"tick": 12, "carry": 4}


def is_of_kind(value, kind):
    """Whether any value is a thing of a kind."""
    if kind == "row":
        return isinstance(value, Row)
    if kind == "exchange":
        return isinstance(value, Exchange)
    if kind == "machine":
        return isinstance(value, Machine)
    if kind == "floor":
        return isinstance(value, Floor)
    if kind == "seen":
        return isinstance(value, Seen)
    if kind == "stepper":
        return isinstance(value, (Machine, Program, Floor))
    return isinstance(value, (Machine, Program, Floor, Exchange, Row, Seen))


def own_thing(thing):
    """A thing that no one else can change: seen sets are copied, other things never change."""
    return thing.twin() if isinstance(thing, Seen) else thing


def found_thing(things, value, kind):
    """The thing of a kind under any value; raises UnknownName or WrongThing if there is none."""
    check_known(things, value)
    if not is_of_kind(things[value], kind):
        raise WrongThing(value)
    return things[value]


def check_known(things, value):
    """Raises UnknownName unless any value is a name of a thing."""
    if not is_among(things, value):
        raise UnknownName(value)


def check_deed(things, deed):
    """Raises what a deed raises before it calls anything."""
    if not is_doing(deed):
        raise InvalidDeed(0)
    if deed[0] in GIVING and not is_name(deed[1]):
        raise InvalidName(deed[1])
    if deed[0] == "put" and not is_of_kind(deed[2], "thing"):
        raise InvalidThing(deed[1])
    for at, _ in NEEDS[deed[0]]:
        check_known(things, deed[at])
    for at, kind in NEEDS[deed[0]]:
        found_thing(things, deed[at], kind)
    most = MOST_COUNTS.get(deed[0])
    if most is not None and not is_number(deed[3], -most, most):
        raise InvalidNumber(deed[3])


def is_doing(value):
    """Whether any value is a tuple with the first word of a deed and its number of items."""
    if not isinstance(value, tuple) or len(value) == 0 or not isinstance(value[0], str):
        return False
    return value[0] in ITEMS and len(value) == ITEMS[value[0]]


def made_thing(things, deed):
    """What has the first name of a deed behind it, None if the name is gone; raises what the deed raises."""
    check_deed(things, deed)
    kind = deed[0]
    if kind == "put":
        return own_thing(deed[2])
    if kind == "drop":
        return None
    if kind == "tick":
        return ticked(things[deed[1]], things[deed[2]], deed[3])
    if kind == "edit":
        return things[deed[2]].applied(things[deed[1]])
    if kind == "carry":
        return carry(things[deed[1]], things[deed[2]], ticks=deed[3])
    if kind == "join":
        return Floor([things[deed[2]], things[deed[3]]])
    if kind == "end":
        return Closed([things[deed[2]]], [deed[3]])
    seen = things[deed[1]].twin()
    if kind == "say":
        say_told(seen, deed)
    else:
        seen.unsay(deed[2])
    return seen


def ticked(row, stepper, count):
    """A row behind some steps of a machine, a program or a floor, backwards below 0."""
    new = row
    for _ in range(abs(count)):
        new = stepper.step(new) if count > 0 else stepper.unstep(new)
    return new


def say_told(seen, deed):
    """Puts the saying of a deed on a seen set."""
    name = deed[2]
    cell = deed[3]
    tick = deed[4]
    # a value that is no list of signs has none that could be said
    signs = deed[5] if isinstance(deed[5], (list, tuple)) else ()
    seen.say(name, cell, tick, *signs)


def told_deed(deed):
    """A deed as it is told: with a copy of a seen set and of a list of signs."""
    if deed[0] == "put":
        return ("put", deed[1], own_thing(deed[2]))
    if deed[0] == "say" and isinstance(deed[5], list):
        return (*deed[:5], list(deed[5]))
    return deed
