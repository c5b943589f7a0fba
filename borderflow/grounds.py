"""Grounds: how many signs each cell has."""

from borderflow.basics import power_of
from borderflow.errors import InvalidNumber, InvalidPart, InvalidWord, NotAllowed
from borderflow.rows import nearest, pieces_of, telling_cells
from borderflow.texts import number_text
from borderflow.words import is_number

MOST_SIGNS = 16
FARTHEST = 9999


class Ground:
    """The number of signs far to the left, and the borders from each of which on another number holds."""

    def __init__(self, first, *parts):
        if not is_number(first, 1, MOST_SIGNS):
            raise InvalidNumber(first)
        for at, part in enumerate(parts):
            if not is_part(part) or at > 0 and part[0] <= parts[at - 1][0]:
                raise InvalidPart(at)
        self.first = first
        self._parts = least_parts(first, parts)

    def parts(self):
        """The list of the pairs (border, number of signs), of borders at which the number changes."""
        return list(self._parts)

    def __getitem__(self, at):
        signs = self.first
        for border, many in self._parts:
            if border <= at:
                signs = many
        return signs

    def __iter__(self):
        raise TypeError("a ground is endless")

    def word_count(self, first, end):
        """The number of words of [first, end)."""
        count = 1
        for length, signs in lengths_of(self, first, end):
            count = count * power_of(signs, length)
        return count

    def number_of(self, at, word):
        """The index of the word that stands in the cells from a cell on."""
        if not is_word_on(self, at, word):
            raise InvalidWord(word)
        return index_on(self, at, word)

    def word_of(self, first, end, index):
        """The word of [first, end) with an index."""
        if not is_number(index, 0, self.word_count(first, end) - 1):
            raise InvalidNumber(index)
        return word_on(self, first, end, index)

    def strange(self, row):
        """The cell nearest to 0 with a sign that does not fit, None if the row fits."""
        cells = telling_cells(cut_pieces(pieces_of(row), [border for border, _ in self._parts]))
        return nearest([cell for cell in cells if row[cell] >= self[cell]])

    def __rshift__(self, other):
        return made_ground(self.first, [(border + other, signs) for border, signs in self._parts])

    def __eq__(self, other):
        if not isinstance(other, Ground):
            return NotImplemented
        return self.first == other.first and self._parts == other._parts

    def __repr__(self):
        return f"Ground({self.first}{parts_text(self._parts)})"

    @staticmethod
    def even(signs):
        """The ground with so many signs in each cell."""
        return Ground(signs)


def is_part(value):
    """Whether any value is a pair of a border and a number of signs."""
    if not isinstance(value, tuple) or len(value) != 2:
        return False
    return is_number(value[0], -FARTHEST, FARTHEST) and is_number(value[1], 1, MOST_SIGNS)


def least_parts(first, parts):
    """The parts at whose borders the number of signs changes, as a tuple."""
    signs = [first, *[many for _, many in parts]]
    return tuple([part for at, part in enumerate(parts) if part[1] != signs[at]])


def parts_text(parts):
    """The parts as they stand behind the first number of a ground."""
    return "".join([f", ({number_text(border)}, {signs})" for border, signs in parts])


def made_ground(first, parts):
    """A ground that was worked out, whose borders may lie beyond the bounds of what is passed."""
    ground = Ground(first)
    ground._parts = least_parts(first, parts)
    return ground


def cut_pieces(pieces, borders):
    """The pieces (first, end, period) of a row, cut at some ascending borders."""
    cut = []
    for first, end, period in pieces:
        inside = [
            border for border in borders
            if (first is None or first < border) and (end is None or border < end)
        ]
        for low, high in zip([first, *inside], [*inside, end]):
            cut.append((low, high, period))
    return cut


def lengths_of(ground, first, end):
    """The list of pairs (number of cells, number of signs) of the parts of [first, end)."""
    lengths = []
    start = first
    signs = ground[first]
    for border, many in ground.parts():
        if first < border and border < end:
            lengths.append((border - start, signs))
            start = border
            signs = many
    lengths.append((max(first, end) - start, signs))
    return lengths


def cell_signs(ground, first, end):
    """The list of the numbers of signs of the cells [first, end)."""
    return [signs for length, signs in lengths_of(ground, first, end) for _ in range(length)]


def check_fit(ground, row):
    """Raises NotAllowed unless a row fits a ground."""
    cell = ground.strange(row)
    if cell is not None:
        raise NotAllowed(row[cell], cell)


def is_word_on(ground, at, value):
    """Whether any value is a word of signs that the cells from a cell on have."""
    if not isinstance(value, tuple):
        return False
    signs = cell_signs(ground, at, at + len(value))
    return all([is_number(sign, 0, many - 1) for sign, many in zip(value, signs)])


def index_on(ground, at, word):
    """The index of a word that is known to fit the cells from a cell on."""
    index = 0
    for sign, many in zip(word, cell_signs(ground, at, at + len(word))):
        index = index * many + sign
    return index


def word_on(ground, first, end, index):
    """The word of [first, end) with an index that is known to be right."""
    signs = cell_signs(ground, first, end)
    word = []
    rest = index
    for many in signs[::-1]:
        word.append(rest % many)
        rest = rest // many
    return tuple(word[::-1])
