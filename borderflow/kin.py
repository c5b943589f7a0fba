"""Floors that are kin, and the exchange by which they differ."""

from borderflow.basics import check_limit
from borderflow.errors import UnlikeFloors
from borderflow.exchanges import Exchange, made_exchange
from borderflow.grounds import index_on, word_on
from borderflow.rules import new_word
from borderflow.sides import inner_word


def are_kin(one, other):
    """Whether two floors have equal frames, and the same machine in each cell."""
    if one.frame != other.frame:
        return False
    borders = sorted(set([0, *one.borders(), *other.borders()]))
    cells = [borders[0] - 1, *borders]
    return all([one.machine_at(cell) == other.machine_at(cell) for cell in cells])


def difference(one, other):
    """The exchange to be done behind a step of one of two kin floors to give a step of the other one."""
    if not are_kin(one, other):
        raise UnlikeFloors()
    total = Exchange(one.ground, 0, 0, (0,))
    for edit in one.edits()[::-1]:
        total = total + ~edit
    for border in unlike_borders(one, other):
        total = total + border_exchange(one, other, border)
    for edit in other.edits():
        total = total + edit
    return total


def floors_alike(one, other):
    """Whether two kin floors do the same."""
    return difference(one, other).is_empty()


def unlike_borders(one, other):
    """The borders of the seams of one floor, unless the other one has the same, and then those of its other seams."""
    firsts = [border for border in one.borders() if not is_same_seam(one, other, border)]
    return firsts + [border for border in other.borders() if joint_at(one, border) is None]


def is_same_seam(one, other, border):
    """Whether two kin floors have seams with the same matching at a border of the first one."""
    joint = joint_at(other, border)
    return joint is not None and joint.seam.matching == joint_at(one, border).seam.matching


def joint_at(floor, border):
    """The joint that a floor has at a border, None if it has no seam there."""
    for place, joint in zip(floor.borders(), floor.joints):
        if place == border:
            return joint
    return None


def border_exchange(one, other, border):
    """The exchange at a border: what the second floor makes there in the place of what the first one does."""
    ground = one.ground
    below = one.machine_at(border - 1).reach
    above = one.machine_at(border).reach
    start = border - 4 * below
    end = border + 4 * above
    count = ground.word_count(start, end)
    check_limit("words", count)
    table = []
    for index in range(count):
        word = word_on(ground, start, end, index)
        made = made_word(other, border, led_word(one, border, word))
        kept = word[len(word) - 2 * above:]
        table.append(index_on(ground, start, word[:2 * below] + made + kept))
    return made_exchange(ground, start, end, table)


def led_word(floor, border, word):
    """The in word of [x - 3a, x + 3b) for which a floor makes the out word of [x - 4a, x + 4b)."""
    joint = joint_at(floor, border)
    if joint is None:
        machine = floor.machine_at(border)
        first = machine.reach + machine.back.low
        return new_word(machine.back, word)[first:first + 6 * machine.reach]
    one = joint.seam.one
    other = joint.seam.other
    below = inner_word(one.back, one.reach, word[:4 * one.reach])
    above = inner_word(other.back, other.reach, word[4 * one.reach:])
    return below + joint.in_word(word) + above


def made_word(floor, border, word):
    """The out word of [x - 2a, x + 2b) that a floor makes from the in word of [x - 3a, x + 3b)."""
    joint = joint_at(floor, border)
    if joint is not None:
        return joint.out_word(word)
    machine = floor.machine_at(border)
    first = machine.reach + machine.rule.low
    return new_word(machine.rule, word)[first:first + 4 * machine.reach]
