"""Fringes: what a seen word of out cells leaves open of the in cells, on either side of those that it tells."""

from borderflow.basics import power_of
from borderflow.errors import InvalidWord, TooNarrow
from borderflow.rules import new_sign, new_word
from borderflow.words import is_word, word_list

LONGEST = 40


def pasts(machine, word):
    """All pasts of a seen word, in order."""
    check_seen_word(machine, word)
    yield from past_list(machine, word)


def past_count(machine, word):
    """The number of pasts of a seen word."""
    check_seen_word(machine, word)
    # there are always so many, for a word of any length
    return power_of(machine.signs, 2 * machine.reach)


def fringes(machine, word):
    """The pair of the ascending lists of the words of the left and the right fringe."""
    check_seen_word(machine, word)
    cells = 2 * machine.reach
    if len(word) < 2 * cells:
        raise TooNarrow(0, 2 * cells)
    found = past_list(machine, word)
    return sorted({past[:cells] for past in found}), sorted({past[len(past) - cells:] for past in found})


def told_cells(machine, word):
    """The in word that a seen word tells, which is shorter by the reach on either side."""
    check_seen_word(machine, word)
    first = machine.reach + machine.back.low
    return new_word(machine.back, word)[first:first + max(0, len(word) - 2 * machine.reach)]


def check_seen_word(machine, value):
    """Raises InvalidWord unless any value is a word of at most 40 signs of a machine."""
    if not is_word(value, machine.signs) or len(value) > LONGEST:
        raise InvalidWord(value)


def past_list(machine, word):
    """The ascending list of the pasts of a seen word."""
    rule = machine.rule
    reach = machine.reach
    found = word_list(2 * reach, machine.signs)
    for at, sign in enumerate(word):
        # behind each new sign of a past, one more out cell is told; it has the relative cell 0
        longer = [(*past, new) for past in found for new in range(machine.signs)]
        found = [past for past in longer if new_sign(rule, past[at:], -reach) == sign]
    return found
