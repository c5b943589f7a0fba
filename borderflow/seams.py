"""Seams: two machines on either side of a border, and the words around it matched with pairs of numbers."""

from borderflow.basics import check_limit, order_fault
from borderflow.errors import InvalidMatching, InvalidNumber, InvalidWord, UnlikeFlows
from borderflow.grounds import Ground, index_on, is_word_on, word_on
from borderflow.words import is_number


class Seam:
    """One machine below a border, another one from there on, and a matching."""

    def __init__(self, one, other, *, matching=None):
        if one.flow != other.flow:
            raise UnlikeFlows(one.flow, other.flow)
        size = one.left * other.right
        check_limit("seam", size)
        fault = None if matching is None else order_fault(matching, size)
        if fault is not None:
            raise InvalidMatching(fault)
        self.one = one
        self.other = other
        self.size = size
        self.matching = tuple(range(size)) if matching is None else tuple(matching)
        self.flow = one.flow
        # with the border at 0
        self._ground = Ground(one.signs, (0, other.signs))

    def numbers(self, word):
        """The pair (lambda, rho) of a word around the border."""
        cells = self.one.reach + self.other.reach
        if not is_word_on(self._ground, -self.one.reach, word) or len(word) != cells:
            raise InvalidWord(word)
        item = self.matching[index_on(self._ground, -self.one.reach, word)]
        return item // self.other.right, item % self.other.right

    def middle(self, left_number, right_number):
        """The word around the border with a pair of numbers."""
        if not is_number(left_number, 0, self.one.left - 1):
            raise InvalidNumber(left_number)
        if not is_number(right_number, 0, self.other.right - 1):
            raise InvalidNumber(right_number)
        index = self.matching.index(left_number * self.other.right + right_number)
        return word_on(self._ground, -self.one.reach, self.other.reach, index)

    def __eq__(self, other):
        if not isinstance(other, Seam):
            return NotImplemented
        if self.one != other.one or self.other != other.other:
            return False
        return self.matching == other.matching

    def __len__(self):
        return len(self.matching)

    def __repr__(self):
        return f"Seam({self.size} words, flow {self.flow})"
