"""Rows of cells that are endless both ways: a told word between two words that repeat."""

from borderflow.errors import InvalidNumber, InvalidText, InvalidWord, NotAllowed
from borderflow.texts import finished_lines, lines_text, numbers_text, read_head, read_numbers
from borderflow.words import ALL_SIGNS, is_number, is_ring, is_word

FARTHEST = 9999
LONGEST_READ = 400
LINES = 4


class Row:
    """A row, told in its least form."""

    def __init__(self, left, told=(), right=None, *, start=0):
        if not is_ring(left, ALL_SIGNS):
            raise InvalidWord(left)
        if not is_word(told, ALL_SIGNS):
            raise InvalidWord(told)
        if right is not None and not is_ring(right, ALL_SIGNS):
            raise InvalidWord(right)
        if not is_number(start, -FARTHEST, FARTHEST):
            raise InvalidNumber(start)
        form = least_form(left, told, left if right is None else right, start)
        self.left = form[0]
        self.told = form[1]
        self.right = form[2]
        self.start = form[3]

    def __getitem__(self, at):
        return sign_in((self.left, self.told, self.right, self.start), at)

    def __iter__(self):
        raise TypeError("a row is endless")

    def word(self, first, end):
        """The word of the cells [first, end)."""
        return stretch_of((self.left, self.told, self.right, self.start), first, end)

    def __rshift__(self, other):
        return made_row(self.left, self.told, self.right, self.start + other)

    def __lshift__(self, other):
        return made_row(self.left, self.told, self.right, self.start - other)

    def changed(self, cell, word):
        """The row with a word put into the cells from a cell on."""
        if not is_word(word, ALL_SIGNS):
            raise InvalidWord(word)
        first = min(self.start, cell)
        end = max(self.start + len(self.told), cell + len(word))
        told = self.word(first, cell) + word + self.word(cell + len(word), end)
        left = self.word(first - len(self.left), first)
        return made_row(left, told, self.word(end, end + len(self.right)), first)

    def strange(self, signs):
        """The cell nearest to 0 with a sign that is not below signs, None if there is none."""
        return nearest([cell for cell in telling_cells(pieces_of(self)) if self[cell] >= signs])

    def apart(self, other):
        """The cell nearest to 0 in which two rows differ, None if they are equal."""
        first = min(self.start, other.start)
        end = max(self.start + len(self.told), other.start + len(other.told))
        # two periods that agree in so many cells as both have together agree everywhere
        below = (None, first, len(self.left) + len(other.left))
        above = (end, None, len(self.right) + len(other.right))
        cells = telling_cells([below, (first, end, end - first), above])
        return nearest([cell for cell in cells if self[cell] != other[cell]])

    def __eq__(self, other):
        if not isinstance(other, Row):
            return NotImplemented
        if self.start != other.start or self.told != other.told:
            return False
        return self.left == other.left and self.right == other.right

    def text(self):
        """The four lines that tell the row."""
        words = [numbers_text(self.left), numbers_text(self.told), numbers_text(self.right)]
        return lines_text([f"row {self.start}", *words])

    def __str__(self):
        return str(self.text())

    def __repr__(self):
        return f"Row({self.left}, {self.told}, {self.right}, start={self.start})"

    @staticmethod
    def read(text):
        """The row with a text of four lines."""
        values = []
        for at, line in enumerate(finished_lines(text)):
            value = None if line is None else read_line(at, line)
            if value is None:
                raise InvalidText(at, "form")
            values.append(value)
        if len(values) < LINES:
            raise InvalidText(len(values), "missing")
        return Row(values[1], values[2], values[3], start=values[0])


def read_line(at, line):
    """What the line with an index tells of a row, None if it is wrong."""
    if at == 0:
        numbers = read_head(line, "row")
        if numbers is None or len(numbers) != 1 or not is_number(numbers[0], -FARTHEST, FARTHEST):
            return None
        return numbers[0]
    if at >= LINES:
        return None
    word = read_numbers(line)
    if word is None or not is_word(word, ALL_SIGNS) or len(word) > LONGEST_READ:
        return None
    # only the told word may be empty
    return None if word == () and at != 2 else word


def check_signs(row, signs):
    """Raises NotAllowed unless a row has signs below this number alone."""
    cell = row.strange(signs)
    if cell is not None:
        raise NotAllowed(row[cell], cell)


def made_row(left, told, right, start):
    """A row that was worked out, whose start may lie beyond the bounds of what is passed."""
    form = least_form(left, told, right, start)
    row = Row((0,))
    row.left = form[0]
    row.told = form[1]
    row.right = form[2]
    row.start = form[3]
    return row


def window_word(row, low, high):
    """The word that tells, through a window, the new told word of a row with a period on either side of it."""
    end = row.start + len(row.told)
    return row.word(row.start - high - len(row.left) + low, end - low + len(row.right) + high)


def told_row(row, low, high, word):
    """The row that a window makes from a row, by the new word of its window_word."""
    before = len(row.left)
    end = len(word) - len(row.right)
    return made_row(word[:before], word[before:end], word[end:], row.start - high)


def sign_in(form, cell):
    """The sign of a cell of a row that left, told and right words and a start tell."""
    left, told, right, start = form
    if cell < start:
        return left[(cell - start) % len(left)]
    at = cell - start
    if at < len(told):
        return told[at]
    return right[(at - len(told)) % len(right)]


def stretch_of(form, first, end):
    """The word of the cells [first, end) of such a row."""
    return tuple([sign_in(form, cell) for cell in range(first, end)])


def least_form(left, told, right, start):
    """The left, told and right word and the start of the least form."""
    form = (least_period(left), told, least_period(right), start)
    before = len(form[0])
    behind = len(form[2])
    end = repeats_from(form)
    if end is None:
        return stretch_of(form, -behind, 0), (), stretch_of(form, 0, behind), 0
    first = min(end, repeats_below(form))
    return (
        stretch_of(form, first - before, first),
        stretch_of(form, first, end),
        stretch_of(form, end, end + behind),
        first,
    )


def least_period(word):
    """The shortest word that repeats as a word does."""
    length = len(word)
    for part in range(1, length):
        if length % part == 0 and word == word[:part] * (length // part):
            return word[:part]
    return word


def repeats_from(form):
    """The least cell from which on the right word is repeated, None if it is repeated throughout."""
    left, told, right, start = form
    # a cell below this one compares as the cell that is a left period further right
    lowest = start - len(left) - len(right)
    cell = start + len(told)
    while cell > lowest and sign_in(form, cell - 1) == sign_in(form, cell - 1 + len(right)):
        cell = cell - 1
    return None if cell == lowest else cell


def repeats_below(form):
    """The greatest cell below which the left word is repeated, in a row that does not repeat throughout."""
    left = form[0]
    cell = form[3]
    while sign_in(form, cell) == sign_in(form, cell - len(left)):
        cell = cell + 1
    return cell


def pieces_of(row):
    """The pieces (first, end, period) of a row within which it repeats, with None for an end that is endless."""
    end = row.start + len(row.told)
    return [(None, row.start, len(row.left)), (row.start, end, end - row.start), (end, None, len(row.right))]


def telling_cells(pieces):
    """Cells among which is the nearest one of a kind, if the kind repeats within each of some pieces."""
    return [cell for first, end, period in pieces for cell in near_cells(first, end, period)]


def near_cells(first, end, period):
    """The cells of [first, end), where None is endless, at most a period away from the cell that is nearest to 0."""
    low = min(0, end) - period if first is None else first
    high = max(0, low) + period if end is None else end
    near = min(max(0, low), high)
    return list(range(max(low, near - period), min(high, near + period)))


def nearest(cells):
    """The cell that is nearest to 0, of two the one below 0, None if there are none."""
    return min(cells, key=lambda cell: (abs(cell), cell), default=None)
