"""Numbers and words: point [4] and the interface of borderflow/words.py."""

import unittest

from borderflow import words as module
from borderflow.errors import InvalidNumber, TooMany
from borderflow.rows import Row
from borderflow.words import all_words, is_number, is_word, word_at, word_index
from tests.cases import Case, words


class Words(Case):
    def test_most(self):
        self.assertEqual(module.MOST, 4096)

    def test_is_number(self):
        for value in (-2, 0, 3):
            self.assertIs(is_number(value, -2, 3), True)
        for value in (-3, 4, True, False, None, "1", (1,), [1], Row((0,))):
            self.assertIs(is_number(value, -2, 3), False)
        self.assertIs(is_number(value=5, least=6, most=4), False)

    def test_is_word(self):
        for value in ((), (0,), (1, 0, 1)):
            self.assertIs(is_word(value, 2), True)
        for value in ((2,), (0, -1), (0, True), (False,), [0], "0", 0, None, True, ((0,),), (None,), ([],), Row((0,))):
            self.assertIs(is_word(value, 2), False)
        self.assertIs(is_word(value=(1,), signs=1), False)

    def test_no_sign_above_63(self):
        for signs in (64, 65, 1000):
            self.assertIs(is_word((63,), signs), True)
            self.assertIs(is_word((64,), signs), False)
        self.assertIs(is_word((62,), 63), True)
        self.assertIs(is_word((63,), 63), False)

    def test_index(self):
        for length in range(4):
            for signs in (1, 2, 3):
                for index, word in enumerate(words(length, signs)):
                    self.assertEqual(word_index(word, signs), index)
                    self.assertEqual(word_at(index, length, signs), word)
        self.assertEqual(word_index((63, 0, 1), 64), 63 * 4096 + 1)
        self.assertEqual(word_index((), 5), 0)
        self.assertEqual(word_at(63 * 4096 + 1, 3, 64), (63, 0, 1))
        self.assertEqual(word_at(64 ** 99 - 1, 99, 64), (63,) * 99)

    def test_wrong_index(self):
        for wrong in (-1, 8, True, False, None, "1", (1,), [0]):
            self.fails(InvalidNumber, (wrong,), word_at, wrong, 3, 2)
        self.fails(InvalidNumber, (1,), word_at, 1, 0, 5)
        self.assertEqual(word_at(0, 0, 5), ())

    def test_all_words(self):
        for length in range(4):
            for signs in (1, 2, 3, 5):
                self.assertEqual(list(all_words(length, signs)), words(length, signs))
        self.assertEqual(list(all_words(length=0, signs=64)), [()])
        self.assertEqual(list(all_words(99, 1)), [(0,) * 99])
        self.assertEqual(list(all_words(1, 64))[-1], (63,))

    def test_most_words(self):
        self.assertEqual(len(list(all_words(12, 2))), 4096)
        self.fails(TooMany, ("words", 8192), list, all_words(13, 2))
        self.fails(TooMany, ("words", 64 ** 99), list, all_words(99, 64))
        self.assertEqual(len(list(all_words(3, 2, most=8))), 8)
        self.fails(TooMany, ("words", 8), list, all_words(3, 2, most=7))
        self.assertEqual(len(list(all_words(13, 2, most=10000))), 8192)
        with self.assertRaises(TypeError):
            all_words(1, 2, 3)

    def test_errors_come_with_the_first_item(self):
        generator = all_words(True, 0)
        self.fails(InvalidNumber, (True,), next, generator)

    def test_wrong_lengths_and_signs(self):
        for wrong in (-1, 100, True, False, None, "1", (1,)):
            self.fails(InvalidNumber, (wrong,), list, all_words(wrong, 0))
        for wrong in (-1, 0, 65, True, False, None, "1", (1,)):
            self.fails(InvalidNumber, (wrong,), list, all_words(99, wrong, most=0))

    def test_words_are_made_one_by_one(self):
        generator = all_words(99, 2, most=2 ** 99)
        self.assertEqual(next(generator), (0,) * 99)
        self.assertEqual(next(generator), (0,) * 98 + (1,))


if __name__ == "__main__":
    unittest.main()
