"""Lots: the tails of fair words, which show by themselves that no history keeps some sayings."""

from borderflow.basics import is_listing, power_of
from borderflow.pulling import ending_at, fair_tails, keeps, longer_words, tail_words, told_stretch, widest
from borderflow.seen import pulls_of
from borderflow.words import is_word_of, word_index


def lots(seen, tick=0):
    """The lots of a seen set at a tick, a list of lists."""
    pulls = pulls_of(seen, tick)
    signs = seen.machine.signs
    return [
        tail_words(tails, tail_length(pulls, many), signs)
        for many, tails in enumerate(fair_tails(pulls, signs))
    ]


def are_closed(seen, value, tick=0):
    """Whether any value is closed lots for a seen set at a tick."""
    pulls = pulls_of(seen, tick)
    signs = seen.machine.signs
    first, end = told_stretch(pulls)
    if not is_listing(value, end - first + 1):
        return False
    if not all([is_lot(lot, signs, tail_length(pulls, many)) for many, lot in enumerate(value)]):
        return False
    if len(value[0]) == 0:
        return False
    marked = [{word_index(word, signs): True for word in lot} for lot in value]
    tail_count = power_of(signs, widest(pulls) - 1)
    for at in range(end - first):
        ending = ending_at(pulls, first + at + 1)
        if not all([leads_on(ending, tail, signs, marked[at + 1], tail_count) for tail in marked[at]]):
            return False
    return True


def tail_length(pulls, many):
    """The length of the tails of words of so many cells."""
    return min(many, widest(pulls) - 1)


def is_lot(value, signs, length):
    """Whether any value is a list or tuple of words of a length."""
    return isinstance(value, (list, tuple)) and all([is_word_of(word, signs, length) for word in value])


def leads_on(ending, tail, signs, marked, tail_count):
    """Whether all words of a tail with a sign behind it that keep the sayings ending there have marked tails."""
    return all([
        word % tail_count in marked for word in longer_words(tail, signs) if keeps(ending, word)
    ])
