"""Middles: zones between two seams, driven by the numbers that cross the seams."""

from borderflow.errors import InvalidNumber, InvalidPart, InvalidWord, TooNarrow
from borderflow.grounds import check_fit
from borderflow.rules import new_word
from borderflow.sides import side_words
from borderflow.words import is_number, is_word, is_word_of

LONGEST_LOG = 24


def zone_out(machine, right_number, inner, left_number):
    """The new word of a middle, by its inner and the numbers that cross the seams on its left and its right."""
    if not is_number(right_number, 0, machine.right - 1):
        raise InvalidNumber(right_number)
    if not is_word(inner, machine.signs) or len(inner) < 2 * machine.reach:
        raise InvalidWord(inner)
    if not is_number(left_number, 0, machine.left - 1):
        raise InvalidNumber(left_number)
    return word_out(machine, right_number, inner, left_number)


def word_out(machine, right_number, inner, left_number):
    """As zone_out, for what is known to be right."""
    reach = machine.reach
    first = reach + machine.rule.low
    between = new_word(machine.rule, inner)[first:first + len(inner) - 2 * reach]
    ahead = side_words(machine.rule, reach, inner[:2 * reach], "right")[right_number]
    behind = side_words(machine.rule, reach, inner[len(inner) - 2 * reach:], "left")[left_number]
    return ahead + between + behind


def zone_in(machine, word):
    """The triple (right number, inner, left number) for which zone_out gives a word."""
    if not is_word(word, machine.signs) or len(word) < 4 * machine.reach:
        raise InvalidWord(word)
    reach = machine.reach
    first = reach + machine.back.low
    inner = new_word(machine.back, word)[first:first + len(word) - 2 * reach]
    rights = side_words(machine.rule, reach, inner[:2 * reach], "right")
    lefts = side_words(machine.rule, reach, inner[len(inner) - 2 * reach:], "left")
    return rights.index(word[:2 * reach]), inner, lefts.index(word[len(word) - 2 * reach:])


class Middle:
    """A middle with its present word."""

    def __init__(self, machine, word):
        if not is_word(word, machine.signs):
            raise InvalidWord(word)
        least = max(4 * machine.reach, 1)
        if len(word) < least:
            raise TooNarrow(0, least)
        self.machine = machine
        self._present = word
        self._ticks = 0

    @property
    def present(self):
        """The present word."""
        return self._present

    @property
    def ticks(self):
        """The number of steps so far."""
        return self._ticks

    def left_end(self):
        """The word of the first cells, as many as the reach."""
        return self._present[:self.machine.reach]

    def inner(self):
        """The word of the cells between the ends."""
        return self._present[self.machine.reach:len(self._present) - self.machine.reach]

    def right_end(self):
        """The word of the last cells, as many as the reach."""
        return self._present[len(self._present) - self.machine.reach:]

    def tick(self, right_number, left_number):
        """Does a step with the numbers that cross the seams on the left and on the right."""
        self._present = zone_out(self.machine, right_number, self.inner(), left_number)
        self._ticks = self._ticks + 1

    def untick(self, left_end, right_end):
        """Does a step back, to the word that had these ends; returns the pair of numbers that it had got."""
        for end in (left_end, right_end):
            if not is_word_of(end, self.machine.signs, self.machine.reach):
                raise InvalidWord(end)
        right_number, inner, left_number = zone_in(self.machine, self._present)
        self._present = left_end + inner + right_end
        self._ticks = self._ticks - 1
        return right_number, left_number

    def drive(self, pairs):
        """Does a step for each pair of numbers; returns the pairs of ends that were shown ahead of each step."""
        for at, pair in enumerate(pairs):
            if not is_drive(self.machine, pair):
                raise InvalidPart(at)
        shown = []
        for right_number, left_number in pairs:
            shown.append((self.left_end(), self.right_end()))
            self.tick(right_number, left_number)
        return shown

    def twin(self):
        """An independent middle in the same state."""
        other = Middle(self.machine, self._present)
        other._ticks = self._ticks
        return other

    def __len__(self):
        return len(self._present)

    def __repr__(self):
        return f"Middle({len(self._present)} cells, {self._ticks} ticks)"


def is_drive(machine, value):
    """Whether any value is a pair of a right and a left number."""
    if not isinstance(value, tuple) or len(value) != 2:
        return False
    return is_number(value[0], 0, machine.right - 1) and is_number(value[1], 0, machine.left - 1)


def crossing_log(floor, row, count):
    """The lists of the crossings of all seams at each of some steps from a row on."""
    if not is_number(count, 0, LONGEST_LOG):
        raise InvalidNumber(count)
    check_fit(floor.ground, row)
    now = row
    for _ in range(count):
        yield [floor.crossing(now, seam) for seam in range(len(floor) - 1)]
        now = floor.step(now)
