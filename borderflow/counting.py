"""Right and left halves at a border of a floor, and how many there are."""

from borderflow.basics import check_limit
from borderflow.errors import InvalidNumber, InvalidSide, InvalidWord
from borderflow.grounds import is_word_on, word_on
from borderflow.halves import FARTHEST, SIDES
from borderflow.passes import next_row
from borderflow.rows import made_row
from borderflow.words import is_number


def border_halves(floor, border, context, *, side, reach=None):
    """The ascending list of the right or left halves of a floor at a border."""
    if not isinstance(side, str) or side not in SIDES:
        raise InvalidSide(side)
    cells = counted_cells(floor, border, reach)
    first = border + cells if side == "right" else border - 3 * cells
    if not is_word_on(floor.ground, first, context) or len(context) != 2 * cells:
        raise InvalidWord(context)
    return side_halves(floor, border, context, side, cells)


def border_counts(floor, border, *, reach=None):
    """The numbers of left and of right halves of a floor at a border."""
    cells = counted_cells(floor, border, reach)
    rights = len(side_halves(floor, border, (0,) * (2 * cells), "right", cells))
    # each word around the border belongs to one pair of a left and a right half
    return floor.ground.word_count(border - cells, border + cells) // rights, rights


def counted_cells(floor, border, reach):
    """The number R that is meant; raises what the functions of this module raise for it."""
    if reach is not None and not is_number(reach, floor.reach, FARTHEST):
        raise InvalidNumber(reach)
    cells = floor.reach if reach is None else reach
    check_limit("words", floor.ground.word_count(border - cells, border + cells))
    return cells


def side_halves(floor, border, context, side, cells):
    """The ascending list of the halves for a context that is known to fit."""
    first = border - cells
    halves = []
    for index in range(floor.ground.word_count(first, border + cells)):
        word = word_on(floor.ground, first, border + cells, index)
        if side == "right":
            row = next_row(floor, made_row((0,), word + context, (0,), first))
            halves.append(row.word(border, border + 2 * cells))
        else:
            row = next_row(floor, made_row((0,), context + word, (0,), border - 3 * cells))
            halves.append(row.word(border - 2 * cells, border))
    return sorted(set(halves))
