"""Pairs of words with equal new signs, as the points of a graph.

A rule with the width w over n signs has a point for each pair (u, v) of words of w - 1 cells; its number is
u * N + v, with N words of this length. A step leads from (u, v) to the pair of the words one cell further right,
if both words of the width have the same new sign. So a walk tells two words that become the same word.
"""

from borderflow.basics import power_of


def word_count(rule):
    """The number N of words of a point."""
    return power_of(rule.signs, rule.width - 1)


def steps_between(rule):
    """For each point the list of the points to which a step leads, for a rule of a width above 1."""
    count = word_count(rule)
    signs = rule.signs
    table = rule.table
    return [
        [
            upper % count * count + lower % count
            for upper in range(one * signs, one * signs + signs)
            for lower in range(other * signs, other * signs + signs)
            if table[upper] == table[lower]
        ]
        for one in range(count)
        for other in range(count)
    ]


def turned(steps):
    """For each point the list of the points from which a step leads to it."""
    befores = [[] for _ in steps]
    for point, afters in enumerate(steps):
        for after in afters:
            befores[after].append(point)
    return befores


def longest_walks(steps):
    """For each point the number of steps of the longest walk from it, None if walks from it don't end."""
    longest = [None for _ in steps]
    befores = turned(steps)
    left = [len(afters) for afters in steps]
    points = [point for point, count in enumerate(left) if count == 0]
    length = 0
    while points:
        ended = []
        for point in points:
            longest[point] = length
            for before in befores[point]:
                left[before] = left[before] - 1
                if left[before] == 0:
                    ended.append(before)
        points = ended
        length = length + 1
    return longest


def is_unlike(point, count):
    """Whether the two words of a point differ."""
    return point // count != point % count
