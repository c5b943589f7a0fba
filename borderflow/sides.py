"""The words that a rule can make on either side of a border, next to a context on the same side."""

from borderflow.rules import new_word
from borderflow.words import word_list


def inner_word(rule, reach, word):
    """The new word of the 2R cells in the middle of a word of 4R cells."""
    first = reach + rule.low
    return new_word(rule, word)[first:first + 2 * reach]


def side_words(rule, reach, context, side):
    """The ascending list of the right or left halves for a context."""
    words = word_list(2 * reach, rule.signs)
    if side == "left":
        return sorted({inner_word(rule, reach, context + word) for word in words})
    return sorted({inner_word(rule, reach, word + context) for word in words})


def side_count(rule, reach, side):
    """The number of right or left halves, which is the same for each context."""
    return len(side_words(rule, reach, (0,) * (2 * reach), side))
