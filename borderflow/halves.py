"""Right and left halves at a border, how many there are, and the numbers that they give to a row."""

from borderflow.basics import check_limit, power_of
from borderflow.errors import InvalidNumber, InvalidSide, InvalidWord
from borderflow.rows import check_signs
from borderflow.sides import inner_word, side_count, side_words
from borderflow.words import is_number, is_word_of

FARTHEST = 99
SIDES = ("left", "right")


def halves(machine, context, *, side, reach=None):
    """The ascending list of the right or left halves for a context."""
    if not isinstance(side, str) or side not in SIDES:
        raise InvalidSide(side)
    cells = counted_reach(machine, reach)
    if not is_word_of(context, machine.signs, 2 * cells):
        raise InvalidWord(context)
    return side_words(machine.rule, cells, context, side)


def is_halves(machine, context, value, *, side, reach=None):
    """Whether any value is a list or tuple of just these halves, in any order."""
    words = halves(machine, context, side=side, reach=reach)
    if not isinstance(value, (list, tuple)) or len(value) != len(words):
        return False
    length = len(words[0])
    if not all([is_word_of(word, machine.signs, length) for word in value]):
        return False
    return sorted(value) == words


def counts(machine, *, reach=None):
    """The numbers of left and of right halves."""
    cells = counted_reach(machine, reach)
    return side_count(machine.rule, cells, "left"), side_count(machine.rule, cells, "right")


def counted_reach(machine, reach):
    """The number R that is meant; raises what the functions of this module raise for it."""
    if reach is None:
        return machine.reach
    if not is_number(reach, machine.reach, FARTHEST):
        raise InvalidNumber(reach)
    check_limit("halves", power_of(machine.signs, 2 * reach))
    return reach


def left_number(machine, row, border):
    """The index of the out word below a border among the left halves."""
    word = allowed_word(machine, row, border - 3 * machine.reach, border + machine.reach)
    words = side_words(machine.rule, machine.reach, word[:2 * machine.reach], "left")
    return words.index(inner_word(machine.rule, machine.reach, word))


def right_number(machine, row, border):
    """The index of the out word from a border on among the right halves."""
    word = allowed_word(machine, row, border - machine.reach, border + 3 * machine.reach)
    words = side_words(machine.rule, machine.reach, word[2 * machine.reach:], "right")
    return words.index(inner_word(machine.rule, machine.reach, word))


def allowed_word(machine, row, first, end):
    """The word of the cells [first, end); raises NotAllowed unless the row has signs of the machine alone."""
    check_signs(row, machine.signs)
    return row.word(first, end)
