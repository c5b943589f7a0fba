"""Rules in another shape: mirrored, with renamed signs, with cells put together; and how two rules differ."""

from borderflow.basics import check_limit, order_fault, power_of
from borderflow.errors import InvalidNumber, InvalidTable, UnlikeSigns
from borderflow.rows import check_signs, made_row
from borderflow.rules import made_rule, new_sign, new_word
from borderflow.words import indexed_word, is_number, word_index, word_list

MOST_TOGETHER = 4


def mirrored(rule):
    """The rule that does the same to mirrored rows."""
    table = [rule.table[word_index(word[::-1], rule.signs)] for word in word_list(rule.width, rule.signs)]
    return made_rule(rule.signs, -rule.high, -rule.low, tuple(table))


def renamed(rule, names):
    """The rule in which the item s of names stands in the place of the sign s."""
    fault = order_fault(names, rule.signs)
    if fault is not None:
        raise InvalidTable(fault)
    table = [0 for _ in rule.table]
    for at, word in enumerate(word_list(rule.width, rule.signs)):
        table[word_index([names[sign] for sign in word], rule.signs)] = names[rule.table[at]]
    return made_rule(rule.signs, rule.low, rule.high, tuple(table))


def check_together(m):
    """Raises InvalidNumber unless so many cells may be put together."""
    if not is_number(m, 1, MOST_TOGETHER):
        raise InvalidNumber(m)


def grouped(rule, m):
    """The rule for m cells put together."""
    check_together(m)
    signs = power_of(rule.signs, m)
    check_limit("signs", signs)
    low = rule.low // m
    high = (m - 1 + rule.high) // m
    check_limit("table", power_of(signs, high - low + 1))
    first = rule.low - low * m
    end = m + rule.high - low * m
    table = [
        word_index(new_word(rule, word[first:end]), rule.signs)
        for word in word_list((high - low + 1) * m, rule.signs)
    ]
    return made_rule(signs, low, high, tuple(table))


def row_grouped(row, signs, m):
    """A row over so many signs with m cells put together."""
    check_together(m)
    check_signs(row, signs)
    first = row.start // m
    end = -(-(row.start + len(row.told)) // m)
    left = grouped_stretch(row, signs, m, first - len(row.left), first)
    right = grouped_stretch(row, signs, m, end, end + len(row.right))
    return made_row(left, grouped_stretch(row, signs, m, first, end), right, first)


def grouped_stretch(row, signs, m, first, end):
    """The word of the cells [first, end) of a row with m cells put together."""
    return tuple([word_index(row.word(cell * m, cell * m + m), signs) for cell in range(first, end)])


def row_split(row, signs, m):
    """A row with m cells put together, taken apart again."""
    check_together(m)
    check_signs(row, power_of(signs, m))
    left = split_word(row.left, signs, m)
    return made_row(left, split_word(row.told, signs, m), split_word(row.right, signs, m), row.start * m)


def split_word(word, signs, m):
    """The word of the cells that were put together, m for each sign of a word."""
    return tuple([part for sign in word for part in indexed_word(sign, m, signs)])


def first_unlike(one, other):
    """None for equal rules, otherwise the first cell of the hull and the least word that tells them apart."""
    if one.signs != other.signs:
        raise UnlikeSigns(one.signs, other.signs)
    low = min(one.low, other.low)
    high = max(one.high, other.high)
    check_limit("table", power_of(one.signs, high - low + 1))
    for word in word_list(high - low + 1, one.signs):
        if new_sign(one, word, low) != new_sign(other, word, low):
            return low, word
    return None
