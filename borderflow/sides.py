"""The words that a rule can make on either side of a border, next to a context on the same side."""

from borderflow.basics import power_of
from borderflow.rules import new_indexes, new_word
from borderflow.words import word_list


def inner_word(rule, reach, word):
    """The new word of the 2R cells in the middle of a word of 4R cells."""
    first = reach + rule.low
    return new_word(rule, word)[first:first + 2 * reach]


def side_words(rule, reach, context, side):
    """The ascending list of the right or left halves for a context."""
    words = word_list(2 * reach, rule.signs)
    if side == "left":
        return sorted({inner_word(rule, reach, context + word) for word in words})
    return sorted({inner_word(rule, reach, word + context) for word in words})


def side_count(rule, reach, side):
    """The number of right or left halves, which is the same for each context."""
    return len(side_words(rule, reach, (0,) * (2 * reach), side))


def half_lists(rule, reach, side):
    """For each context, by its index, the ascending list of the indexes of the right or left halves."""
    if reach == 0:
        return [[0]]
    count = power_of(rule.signs, 2 * reach)
    drop = power_of(rule.signs, reach - rule.high)
    # for each word of 4R cells, the index of the new word of the 2R cells in its middle
    inner = [index // drop % count for index in new_indexes(rule, 4 * reach)]
    if side == "left":
        return [sorted({inner[at * count + index] for index in range(count)}) for at in range(count)]
    return [sorted({inner[index * count + at] for index in range(count)}) for at in range(count)]
