"""An object of each class of the package."""

from borderflow.between import SeenBetween
from borderflow.crossings import Crossing
from borderflow.exchanges import Exchange, swap_signs
from borderflow.floors import Closed, Floor
from borderflow.grounds import Ground
from borderflow.machines import move, same
from borderflow.middles import Middle
from borderflow.programs import Program
from borderflow.ratios import Ratio
from borderflow.rows import Row
from borderflow.rules import Rule
from borderflow.seams import Seam
from borderflow.seen import Seen
from borderflow.swaps import Swaps
from borderflow.walks import Walk
from borderflow.workshop import Workshop
from tests.cases import CARRY
from tests.known import carry, flip

TWO = Ground(2)


def ratio():
    return Ratio(2, 3)


def row():
    return Row((0,), (1, 0, 1), (0, 1), start=-1)


def rule():
    return Rule(4, -1, 0, CARRY)


def crossing():
    return Crossing(carry(), (0, 1), (2, 3))


def program():
    return Program((2, 2), ("move", 0, 1), ("add", 1, ((0, 0),), (0, 1)))


def ground():
    return Ground(4, (0, 2))


def seam():
    return Seam(carry(), move(2, 1))


def exchange():
    return Exchange(TWO, 0, 2, (1, 2, 0, 3))


def floor():
    return Floor([flip(), flip()])


def closed():
    return Closed([same(2)], [3])


def middle():
    return Middle(flip(), (0, 1, 1, 0, 1, 0, 0, 1))


def walk():
    return Walk(floor(), row())


def swaps():
    return Swaps(flip(), (0, 1, 1), (1, 0, 0))


def seen():
    found = Seen(carry())
    found.say("one", 0, 0, 1, 2)
    found.say("two", 1, 1, 3)
    return found


def between():
    found = SeenBetween(closed())
    found.say("one", 0, 0, 1)
    return found


def shop():
    told = Workshop(row=row(), flip=flip(), seen=seen(), floor=floor())
    told.run(("tick", "row", "flip", 1))
    return told


def undone():
    told = shop()
    told.undo()
    return told


MAKERS = (
    ratio, row, rule, carry, crossing, program, ground, seam, exchange, floor, closed, middle, walk, swaps, seen, between,
    shop,
)
SWAP = swap_signs(TWO, 1, 0, 1)
