"""Joints: seams with all halves on both sides of them, for steps there and back."""

from borderflow.sides import half_lists, inner_word
from borderflow.words import indexed_word, word_index


class Joint:
    """A seam at a border x of a machine with the reach a and one with the reach b, for many steps."""

    def __init__(self, seam):
        self.seam = seam
        self.lefts = half_lists(seam.one.rule, seam.one.reach, "left")
        self.rights = half_lists(seam.other.rule, seam.other.reach, "right")

    def out_word(self, word):
        """The out word of [x - 2a, x + 2b) that the in word of [x - 3a, x + 3b) tells."""
        one = self.seam.one
        other = self.seam.other
        border = 3 * one.reach
        left, right = self.seam.numbers(word[border - one.reach:border + other.reach])
        below = self.lefts[word_index(word[:2 * one.reach], one.signs)][left]
        above = self.rights[word_index(word[border + other.reach:], other.signs)][right]
        return indexed_word(below, 2 * one.reach, one.signs) + indexed_word(above, 2 * other.reach, other.signs)

    def in_word(self, word):
        """The in word of [x - a, x + b) that leads to the out word of [x - 4a, x + 4b)."""
        one = self.seam.one
        other = self.seam.other
        border = 4 * one.reach
        below = self.lefts[word_index(inner_word(one.back, one.reach, word[:border]), one.signs)]
        above = self.rights[word_index(inner_word(other.back, other.reach, word[border:]), other.signs)]
        left = below.index(word_index(word[border - 2 * one.reach:border], one.signs))
        right = above.index(word_index(word[border:border + 2 * other.reach], other.signs))
        return self.seam.middle(left, right)
