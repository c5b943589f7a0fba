"""Numbers and words: tuples of signs, their order and their index."""

from borderflow.basics import is_whole, power_of
from borderflow.errors import InvalidNumber, TooMany

MOST = 4096
ALL_SIGNS = 64
LONGEST = 99


def is_number(value, least, most):
    """Whether any value is a number from least to most."""
    return is_whole(value) and least <= value and value <= most


def is_word(value, signs):
    """Whether any value is a word over so many signs."""
    if not isinstance(value, tuple):
        return False
    greatest = min(signs, ALL_SIGNS) - 1
    return all([is_number(sign, 0, greatest) for sign in value])


def is_word_of(value, signs, length):
    """Whether any value is a word of this length over so many signs."""
    return isinstance(value, tuple) and len(value) == length and is_word(value, signs)


def is_ring(value, signs):
    """Whether any value is a ring over so many signs: a word that is not empty."""
    return is_word(value, signs) and len(value) > 0


def word_index(word, signs):
    """The position of a word in the ordered list of all words of its length."""
    index = 0
    for sign in word:
        index = index * signs + sign
    return index


def word_at(index, length, signs):
    """The word of this length with an index."""
    if not is_number(index, 0, power_of(signs, length) - 1):
        raise InvalidNumber(index)
    return indexed_word(index, length, signs)


def indexed_word(index, length, signs):
    """As word_at, for an index that is known to be right."""
    digits = []
    rest = index
    for _ in range(length):
        digits.append(rest % signs)
        rest = rest // signs
    return tuple(digits[::-1])


def all_words(length, signs, *, most=MOST):
    """All words of a length, in order."""
    if not is_number(length, 0, LONGEST):
        raise InvalidNumber(length)
    if not is_number(signs, 1, ALL_SIGNS):
        raise InvalidNumber(signs)
    count = power_of(signs, length)
    if count > most:
        raise TooMany("words", count)
    for index in range(count):
        yield indexed_word(index, length, signs)


def word_list(length, signs):
    """The list of all words of a length, in order, for callers that know that they are few."""
    words = [()]
    for _ in range(length):
        words = [(*word, sign) for word in words for sign in range(signs)]
    return words
