"""Crossings: the words around a border between two contexts, matched with pairs of numbers."""

from borderflow.errors import InvalidNumber, InvalidWord
from borderflow.rows import made_row
from borderflow.sides import inner_word, side_words
from borderflow.words import indexed_word, is_number, is_word_of, word_index, word_list


class Crossing:
    """The middle words between a left and a right guard, and the pair of numbers of each."""

    def __init__(self, machine, left_guard, right_guard):
        if not is_word_of(left_guard, machine.signs, 2 * machine.reach):
            raise InvalidWord(left_guard)
        if not is_word_of(right_guard, machine.signs, 2 * machine.reach):
            raise InvalidWord(right_guard)
        self.machine = machine
        self.left_guard = left_guard
        self.right_guard = right_guard
        self._pairs = middle_pairs(machine, left_guard, right_guard)

    def numbers(self, word):
        """The pair (lambda, rho) of a middle word."""
        if not is_word_of(word, self.machine.signs, 2 * self.machine.reach):
            raise InvalidWord(word)
        return self._pairs[word_index(word, self.machine.signs)]

    def middle(self, left_number, right_number):
        """The middle word with a pair of numbers."""
        if not is_number(left_number, 0, self.machine.left - 1):
            raise InvalidNumber(left_number)
        if not is_number(right_number, 0, self.machine.right - 1):
            raise InvalidNumber(right_number)
        index = self._pairs.index((left_number, right_number))
        return indexed_word(index, 2 * self.machine.reach, self.machine.signs)

    def pairs(self):
        """The pairs of all middle words, in the order of the words."""
        yield from self._pairs

    def filled(self, left_number, right_number, border):
        """The row with the guards and a middle word around a border, and 0 in all other cells."""
        word = self.left_guard + self.middle(left_number, right_number) + self.right_guard
        return made_row((0,), word, (0,), border - 3 * self.machine.reach)

    def __len__(self):
        return len(self._pairs)

    def __repr__(self):
        return f"Crossing({self.machine.left} left, {self.machine.right} right)"


def middle_pairs(machine, left_guard, right_guard):
    """The pairs (lambda, rho) of all middle words, in the order of the words."""
    rule = machine.rule
    lefts = side_words(rule, machine.reach, left_guard, "left")
    rights = side_words(rule, machine.reach, right_guard, "right")
    return [
        (
            lefts.index(inner_word(rule, machine.reach, left_guard + word)),
            rights.index(inner_word(rule, machine.reach, word + right_guard)),
        )
        for word in word_list(2 * machine.reach, rule.signs)
    ]
