"""The back of a rule that loses nothing: its least window and its table."""

from borderflow.basics import check_limit, power_of
from borderflow.pairgraph import longest_walks, steps_between, turned, word_count
from borderflow.rules import made_rule, new_indexes


def back_rule(rule):
    """The back of a rule that loses nothing; raises TooMany if its window has too many words."""
    low, high = back_window(rule)
    check_limit("table", power_of(rule.signs, high - low + 1))
    table = [0 for _ in range(power_of(rule.signs, high - low + 1))]
    # the old sign of cell 0 is the digit of this place in the word that led to the new one
    place = power_of(rule.signs, high + rule.high)
    for index, new_index in enumerate(new_indexes(rule, high - low + rule.width)):
        table[new_index] = index // place % rule.signs
    return made_rule(rule.signs, low, high, tuple(table))


def back_window(rule):
    """The least window of the back.

    Two rows with equal new signs in all cells up to some cell, and unlike old signs in cell 0, are a walk that has
    no end behind it; the longest one that goes on behind a step with unlike signs of cell 0 tells the highest cell
    on which the back depends. The lowest cell is found in the same way, with walks that have no end ahead of them.
    """
    if rule.width == 1:
        return -rule.high, -rule.low
    count = word_count(rule)
    first_place = count // rule.signs
    steps = steps_between(rule)
    ahead = longest_walks(steps)
    behind = longest_walks(turned(steps))
    high = 0
    low = 0
    for point in range(len(steps)):
        one = point // count
        other = point % count
        if behind[point] is None and one % rule.signs != other % rule.signs:
            high = max(high, ahead[point] + 1)
        if ahead[point] is None and one // first_place != other // first_place:
            low = max(low, behind[point] + 1)
    return -rule.low - low, high - rule.high
