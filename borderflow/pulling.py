"""Sayings that are pulled to a tick, and the words that keep them, worked out cell by cell.

A pull is a tuple (first, end, kept): the word of [first, end) tells whether a saying is kept, and kept has the
answer for each word, by index. Words and tails of words are told by their indexes throughout.
"""

from borderflow.basics import check_limit, power_of
from borderflow.rules import new_indexes
from borderflow.words import indexed_word


def pulls_at(machine, sayings, tick):
    """The pulls of some sayings (name, cell, tick, signs) to a tick; raises TooMany for one that is too wide."""
    return [pulled(machine, cell, saying_tick - tick, signs) for _, cell, saying_tick, signs in sayings]


def pulled(machine, cell, ticks, signs):
    """The pull of the saying that a cell has one of these signs so many ticks later, earlier if they are below 0."""
    rule = machine.rule if ticks >= 0 else machine.back
    first = cell + abs(ticks) * rule.low
    end = cell + abs(ticks) * rule.high + 1
    check_limit("table", power_of(rule.signs, end - first))
    return first, end, [sign in signs for sign in told_signs(rule, abs(ticks))]


def told_signs(rule, times):
    """For each word of the window of so many steps, by index, the sign that it tells."""
    told = list(range(rule.signs))
    for done in range(times):
        told = [told[index] for index in new_indexes(rule, (done + 1) * (rule.width - 1) + 1)]
    return told


def told_stretch(pulls):
    """The hull of the stretches of some pulls."""
    if pulls == []:
        return 0, 0
    return min([first for first, _, _ in pulls]), max([end for _, end, _ in pulls])


def widest(pulls):
    """The greatest width of a pull, 1 if there are none."""
    return max([1, *[end - first for first, end, _ in pulls]])


def ending_at(pulls, end):
    """What the pulls whose stretch ends at a cell tell of words."""
    return [kept for _, pull_end, kept in pulls if pull_end == end]


def keeps(ending, word):
    """Whether a word keeps all sayings whose stretch ends with it."""
    return all([kept[word % len(kept)] for kept in ending])


def longer_words(tail, signs):
    """The words of a tail with a sign behind it."""
    return list(range(tail * signs, tail * signs + signs))


def fair_tails(pulls, signs):
    """For each number of cells of the told stretch, from 0 on, the tails of its fair words.

    Each item is a dict that tells for each tail how many fair words have it.
    """
    first, end = told_stretch(pulls)
    tail_count = power_of(signs, widest(pulls) - 1)
    tails = {0: 1}
    lots = [tails]
    for cell in range(first, end):
        ending = ending_at(pulls, cell + 1)
        longer = {}
        for tail, many in tails.items():
            for word in longer_words(tail, signs):
                if keeps(ending, word):
                    longer[word % tail_count] = longer.get(word % tail_count, 0) + many
        tails = longer
        lots.append(tails)
    return lots


def good_count(pulls, signs):
    """The number of words of the told stretch that keep all sayings."""
    return sum(list(fair_tails(pulls, signs)[-1].values()))


def is_kept(pulls, signs):
    """Whether some word keeps all sayings."""
    return fair_tails(pulls, signs)[-1] != {}


def good_word(pulls, signs):
    """Some word of the told stretch that keeps all sayings, None if there is none."""
    lots = fair_tails(pulls, signs)
    first, end = told_stretch(pulls)
    if lots[-1] == {}:
        return None
    tail_count = power_of(signs, widest(pulls) - 1)
    found = []
    tail = sorted(lots[-1])[0]
    for at in range(end - first - 1, -1, -1):
        ending = ending_at(pulls, first + at + 1)
        longer = [sign * tail_count + tail for sign in range(signs)]
        fair = [word for word in longer if word // signs in lots[at] and keeps(ending, word)]
        found.append(fair[0] % signs)
        tail = fair[0] // signs
    return tuple(found[::-1])


def cell_signs_of(pulls, signs, cell):
    """The ascending list of the signs that a cell has in words that keep all sayings."""
    free = (cell, cell + 1, [True for _ in range(signs)])
    told = [*pulls, free]
    lots = fair_tails(told, signs)
    first, end = told_stretch(told)
    tail_count = power_of(signs, widest(told) - 1)
    lasting = lots[-1]
    for at in range(end - first - 1, cell - first, -1):
        ending = ending_at(told, first + at + 1)
        lasting = {
            tail: True for tail in lots[at]
            if some_lasts(ending, longer_words(tail, signs), lasting, tail_count)
        }
    ending = ending_at(told, cell + 1)
    return [
        sign for sign in range(signs)
        if some_lasts(ending, [tail * signs + sign for tail in lots[cell - first]], lasting, tail_count)
    ]


def some_lasts(ending, words, lasting, tail_count):
    """Whether one of some words keeps the sayings that end with it, and has a tail that lasts."""
    for word in words:
        if word % tail_count in lasting and keeps(ending, word):
            return True
    return False


def tail_words(tails, length, signs):
    """The ascending list of tails of a length, as words."""
    return [indexed_word(tail, length, signs) for tail in sorted(tails)]
