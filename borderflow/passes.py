"""Steps of floors: what the seams tell of the cells around them, and the tables of the machines elsewhere."""

from borderflow.rows import made_row
from borderflow.rules import new_word


def next_row(floor, row):
    """The next row of a row that is known to fit the ground of a floor."""
    rules = [machine.rule for machine in floor.machines()]
    new = patched_row(floor, row, rules, patches_ahead(floor, row))
    for edit in floor.edits():
        new = edit.applied(new)
    return new


def row_before(floor, row):
    """The row before a row that is known to fit the ground of a floor."""
    old = row
    for edit in floor.edits()[::-1]:
        old = (~edit).applied(old)
    rules = [machine.back for machine in floor.machines()]
    return patched_row(floor, old, rules, patches_behind(floor, old))


def patches_ahead(floor, row):
    """For each seam the first cell and the word of the out cells that it tells."""
    patches = []
    for border, joint in zip(floor.borders(), floor.joints):
        below = joint.seam.one.reach
        above = joint.seam.other.reach
        word = row.word(border - 3 * below, border + 3 * above)
        patches.append((border - 2 * below, joint.out_word(word)))
    return patches


def patches_behind(floor, row):
    """For each seam the first cell and the word of the in cells that it tells."""
    patches = []
    for border, joint in zip(floor.borders(), floor.joints):
        below = joint.seam.one.reach
        above = joint.seam.other.reach
        word = row.word(border - 4 * below, border + 4 * above)
        patches.append((border - below, joint.in_word(word)))
    return patches


def patched_row(floor, row, rules, patches):
    """The row that the rules of the zones make, but for the words at the seams."""
    machines = floor.machines()
    # from these cells on outwards no seam and no told sign is in reach
    first = min([row.start, *floor.borders()]) - 2 * machines[0].reach
    end = max([row.start + len(row.told), *floor.borders()]) + 2 * machines[-1].reach
    before = len(row.left)
    word = patched_word(row, rules, patches, first - before, end + len(row.right))
    told_end = before + end - first
    return made_row(word[:before], word[before:told_end], word[told_end:], first)


def patched_word(row, rules, patches, first, end):
    """The new word of [first, end), a stretch that has all words at the seams."""
    word = ()
    start = first
    for rule, (at, patch) in zip(rules, patches):
        word = word + ruled_word(row, rule, start, at) + patch
        start = at + len(patch)
    return word + ruled_word(row, rules[-1], start, end)


def ruled_word(row, rule, first, end):
    """The new word of [first, end) by a rule."""
    return new_word(rule, row.word(first + rule.low, end + rule.high))
