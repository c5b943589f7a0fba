"""Rows: points [5], [6], [7] and the interface of borderflow/rows.py."""

import random
import unittest

from borderflow.errors import InvalidNumber, InvalidText, InvalidWord
from borderflow.rows import Row
from tests.cases import Case, words

FAR = 80


def plain_sign(left, told, right, start, cell):
    """The sign of a cell by the words of point [5] alone."""
    if cell < start:
        return left[(cell - start) % len(left)]
    if cell < start + len(told):
        return told[cell - start]
    return right[(cell - start - len(told)) % len(right)]


def plain_least_form(left, told, right, start):
    """The least form by the words of point [6] alone, for short words near 0."""
    signs = {cell: plain_sign(left, told, right, start, cell) for cell in range(-FAR, FAR)}
    before = min(k for k in range(1, 20) if all(signs[c] == signs[c + k] for c in range(-FAR, -FAR // 2)))
    behind = min(k for k in range(1, 20) if all(signs[c] == signs[c + k] for c in range(FAR // 2, FAR - k)))

    def stretch(first, end):
        return tuple(signs[cell] for cell in range(first, end))

    if all(signs[c] == signs[c + behind] for c in range(-FAR, FAR - behind)):
        return stretch(-behind, 0), (), stretch(0, behind), 0
    b = min(c for c in range(-FAR // 2, FAR) if all(signs[k] == signs[k + behind] for k in range(c, FAR - behind)))
    a = max(c for c in range(-FAR + before, FAR // 2)
            if all(signs[k] == signs[k - before] for k in range(-FAR + before, c)))
    first = min(a, b)
    return stretch(first - before, first), stretch(first, b), stretch(b, b + behind), first


def some_row(chance, signs=2, longest=4):
    def word(least):
        return tuple(chance.randrange(signs) for _ in range(chance.randint(least, longest)))

    return word(1), word(0), word(1), chance.randint(-6, 6)


class Rows(Case):
    def form(self, row):
        return row.left, row.told, row.right, row.start

    def test_least_form_of_all_short_rows(self):
        lengths = [word for length in range(4) for word in words(length, 2)]
        for left in lengths[1:]:
            for told in lengths:
                for right in lengths[1:]:
                    row = Row(left, told, right, start=-1)
                    self.assertEqual(self.form(row), plain_least_form(left, told, right, -1))

    def test_least_form_of_some_rows(self):
        chance = random.Random(1)
        for _ in range(600):
            left, told, right, start = some_row(chance, chance.randint(1, 3), 6)
            row = Row(left, told, right, start=start)
            self.assertEqual(self.form(row), plain_least_form(left, told, right, start))
            for cell in range(-30, 30):
                self.assertEqual(row[cell], plain_sign(left, told, right, start, cell))

    def test_example_of_the_least_form(self):
        row = Row((0, 1), (), (0,))
        self.assertEqual(self.form(row), ((0, 1), (), (0,), 0))

    def test_a_row_that_repeats_throughout(self):
        row = Row((0, 1, 2), (0, 1), (2, 0, 1, 2, 0, 1), start=7)
        self.assertEqual(self.form(row), ((2, 0, 1), (), (2, 0, 1), 0))
        self.assertEqual(self.form(Row((5,), (5, 5), (5, 5), start=-9999)), ((5,), (), (5,), 0))

    def test_a_start_elsewhere_than_it_was_given(self):
        self.assertEqual(self.form(Row((0, 0), (0, 1, 0), (0,), start=-1)), ((0,), (1,), (0,), 0))
        self.assertEqual(self.form(Row((0,), (0, 0, 0, 1, 1), (1,), start=5)), ((0,), (), (1,), 8))
        self.assertEqual(self.form(Row((0, 1), (), (1,), start=3)), ((1, 0), (), (1,), 2))

    def test_right_is_left(self):
        self.assertEqual(Row((1, 2), (0,)), Row((1, 2), (0,), (1, 2)))
        self.assertEqual(self.form(Row((1, 2))), ((1, 2), (), (1, 2), 0))
        self.assertEqual(Row(left=(1,), told=(2,), right=(3,), start=4), Row((1,), (2,), (3,), start=4))
        with self.assertRaises(TypeError):
            Row((1,), (2,), (3,), 4)

    def test_wrong_words(self):
        for wrong in ([0], "0", 0, None, True, (64,), (-1,), (True,), (0, None), ((0,),), Row((0,))):
            self.fails(InvalidWord, (wrong,), Row, wrong, wrong, (), start=True)
            if wrong is not None:
                self.fails(InvalidWord, (wrong,), Row, (0,), (), wrong, start=None)
            self.fails(InvalidWord, (wrong,), Row, (0,), wrong, (), start=None)
        self.fails(InvalidWord, ((),), Row, (), [0], [0], start=True)
        self.fails(InvalidWord, ((),), Row, (0,), (), (), start=True)
        self.assertEqual(Row((63,), (63, 0))[0], 63)

    def test_wrong_starts(self):
        for wrong in (-10000, 10000, True, False, None, "0", (0,)):
            self.fails(InvalidNumber, (wrong,), Row, (0,), (1,), start=wrong)
        self.assertEqual(Row((0,), (1,), start=9999).start, 9999)
        self.assertEqual(Row((0,), (1,), start=-9999).start, -9999)

    def test_words_of_a_row(self):
        row = Row((0, 1), (2, 3, 4), (5, 6), start=-1)
        self.assertEqual(row.word(-4, 5), (1, 0, 1, 2, 3, 4, 5, 6, 5))
        self.assertEqual(row.word(first=0, end=1), (3,))
        self.assertEqual(row.word(3, 3), ())
        self.assertEqual(row.word(3, -3), ())
        self.assertEqual((row[9999], row[-9999]), (6, 0))

    def test_moved(self):
        chance = random.Random(2)
        for _ in range(200):
            left, told, right, start = some_row(chance)
            row = Row(left, told, right, start=start)
            d = chance.randint(-9, 9)
            for cell in range(-20, 20):
                self.assertEqual((row >> d)[cell], row[cell - d])
                self.assertEqual((row << d)[cell], row[cell + d])
            self.assertEqual(row >> d, Row(left, told, right, start=start + d))
            self.assertEqual((row >> d) << d, row)

    def test_moved_beyond_the_bounds_of_starts(self):
        row = Row((0,), (1,), start=9999) >> 9999
        self.assertEqual(self.form(row), ((0,), (1,), (0,), 19998))
        self.assertEqual((row >> 9999).start, 29997)
        self.assertEqual(repr(Row((0,), (1,), start=-9999) << 1), "Row((0,), (1,), (0,), start=-10000)")
        self.assertEqual(self.form(Row((0, 1)) >> 9999), ((1, 0), (), (1, 0), 0))

    def test_no_iteration(self):
        with self.assertRaises(TypeError):
            iter(Row((0,)))

    def test_changed(self):
        chance = random.Random(3)
        for _ in range(300):
            row = Row(*some_row(chance)[:3], start=chance.randint(-4, 4))
            word = tuple(chance.randrange(3) for _ in range(chance.randint(0, 4)))
            at = chance.randint(-12, 12)
            new = row.changed(at, word)
            for cell in range(-25, 25):
                told = word[cell - at] if at <= cell < at + len(word) else row[cell]
                self.assertEqual(new[cell], told)
            self.assertEqual(self.form(new), plain_least_form(*self.form(new)))
        self.assertEqual(Row((0,)).changed(cell=3, word=(1,)), Row((0,), (1,), start=3))
        self.assertEqual(Row((0,), (1,), start=3).changed(3, (0,)), Row((0,)))
        self.assertEqual(Row((0, 1)).changed(-5, ()), Row((0, 1)))

    def test_changed_by_wrong_words(self):
        for wrong in ([0], "0", 0, None, True, (64,), (-1,), (True,), Row((0,))):
            self.fails(InvalidWord, (wrong,), Row((0,)).changed, 0, wrong)

    def test_strange(self):
        chance = random.Random(4)
        for _ in range(500):
            row = Row(*some_row(chance, 3)[:3], start=chance.randint(-12, 12))
            for signs in (1, 2, 3):
                cells = sorted(range(-40, 40), key=lambda cell: (abs(cell), cell))
                told = [cell for cell in cells if row[cell] >= signs]
                self.assertEqual(row.strange(signs), told[0] if told else None)
        self.assertEqual(Row((0,), (1, 0, 1), start=-1).strange(1), -1)
        self.assertEqual(Row((0,), (1, 1, 1), start=-1).strange(signs=1), 0)
        self.assertIsNone(Row((0, 1), (2,)).strange(3))
        self.assertEqual((Row((0,), (), (1,), start=9999) >> 9999).strange(1), 19998)
        self.assertEqual(Row((1,), (), (0,), start=-9999).strange(1), -10000)

    def test_strange_within_long_words(self):
        self.assertEqual(Row((0,) * 50 + (7,)).strange(7), -1)
        self.assertEqual((Row((0,) * 50 + (7,)) >> 20).strange(7), 19)
        self.assertEqual((Row((0,) * 50 + (7,)) >> 30).strange(7), -22)

    def test_apart(self):
        chance = random.Random(5)
        for _ in range(500):
            one = Row(*some_row(chance, 2, 3)[:3], start=chance.randint(-9, 9))
            other = Row(*some_row(chance, 2, 3)[:3], start=chance.randint(-9, 9))
            if chance.random() < 0.5:
                other = one.changed(chance.randint(-20, 20), (1, 0))
            cells = sorted(range(-60, 60), key=lambda cell: (abs(cell), cell))
            told = [cell for cell in cells if one[cell] != other[cell]]
            self.assertEqual(one.apart(other), told[0] if told else None)
            self.assertEqual(one == other, not told)
        self.assertIsNone(Row((0, 1)).apart(other=Row((0, 1, 0, 1), (0, 1), start=2)))
        self.assertEqual(Row((0,)).apart(Row((0,), (1, 0, 1), start=-1)), -1)

    def test_apart_far_away(self):
        one = Row((0,), (1,), start=9999)
        self.assertEqual(one.apart(one >> 5), 9999)
        self.assertEqual(Row((0,) * 6 + (1,)).apart(Row((0,) * 10 + (1,))), 6)
        self.assertEqual(Row((0,), (), (0,) * 6 + (1,)).apart(Row((0,), (), (0,) * 10 + (1,))), 6)

    def test_equal(self):
        row = Row((0,), (1,), start=1)
        self.assertTrue(row == Row((0, 0), (0, 1, 0), (0,)))
        self.assertFalse(row != Row((0, 0), (0, 1, 0), (0,)))
        for other in (Row((0,), (1,)), Row((0,)), Row((0,), (1,), (1,), start=1), Row((2,), (1,), (0,), start=1),
                      Row((0,), (1,), (2,), start=1), Row((0,), (1,), (0, 2), start=1), Row((0,), (3,), (0,), start=1),
                      None, 0, (0,), str(row), [row]):
            self.assertFalse(row == other)
            self.assertTrue(row != other)

    def test_always_true(self):
        self.assertTrue(bool(Row((0,))))

    def test_texts(self):
        row = Row((0,), (1, 0), (0,), start=-3)
        self.assertEqual(repr(row), "Row((0,), (1,), (0,), start=-3)")
        self.assertEqual(repr(Row((0,), (1, 0), (2,), start=-3)), "Row((0,), (1, 0), (2,), start=-3)")
        self.assertEqual(repr(Row((0,), (1, 2))), "Row((0,), (1, 2), (0,), start=0)")
        self.assertEqual(row.text(), "row -3\n0\n1\n0\n")
        self.assertEqual(str(row), row.text())
        self.assertEqual(Row((10, 0)).text(), "row 0\n10 0\n\n10 0\n")


class Reading(Case):
    def wrong(self, text, line, why="form"):
        self.fails(InvalidText, (line, why), Row.read, text)

    def test_back_again(self):
        chance = random.Random(6)
        for _ in range(100):
            row = Row(*some_row(chance, 64)[:3], start=chance.randint(-9999, 9999))
            self.assertEqual(Row.read(row.text()), row)

    def test_words_need_not_be_least(self):
        self.assertEqual(Row.read("row -1\n0 0\n0 1 0\n0\n"), Row((0,), (1,)))
        self.assertEqual(Row.read(text="row 9999\n0\n\n63\n"), Row((0,), (), (63,), start=9999))

    def test_no_strings(self):
        for value in (None, True, 0, ("row 0\n0\n\n0\n",), ["row 0"], Row((0,))):
            self.wrong(value, 0)

    def test_missing_lines(self):
        self.wrong("", 0, "missing")
        self.wrong("row 0\n", 1, "missing")
        self.wrong("row 0\n0\n", 2, "missing")
        self.wrong("row 0\n0\n\n", 3, "missing")

    def test_lines_without_an_end(self):
        self.wrong("row 0", 0)
        self.wrong("row 0\n0", 1)
        self.wrong("row 0\n0\n\n0", 3)
        self.wrong("row 0\nx\n\n0", 1)

    def test_a_fifth_line(self):
        self.wrong("row 0\n0\n\n0\n\n", 4)
        self.wrong("row 0\n0\n\n0\n0\n", 4)
        self.wrong("row 0\n0\n\n0\n ", 4)
        self.wrong("row 0\n0\n\n0\nx\ny\n", 4)

    def test_wrong_first_lines(self):
        for line in ("", "row", "row ", "row  0", "row 0 ", " row 0", "Row 0", "row 0 0", "row x", "row 10000",
                     "row -10000", "row 007", "row +1", "row -0", "row 1.0", "rule 0", "row 1_0"):
            self.wrong(line + "\n0\n\n0\n", 0)
            self.wrong(line + "\nx\n", 0)
            self.wrong(line + "\n", 0)

    def test_wrong_words(self):
        for line in ("x", "64", "-1", "007", "00", "+1", "-0", " 0", "0 ", "0  0", "0,0", "1234567890", "0 64",
                     " ".join(["0"] * 401)):
            self.wrong(f"row 0\n{line}\nx\n0\n", 1)
            self.wrong(f"row 0\n0\n{line}\n\n", 2)
            self.wrong(f"row 0\n0\n\n{line}\n", 3)
        self.wrong("row 0\n\n\n0\n", 1)
        self.wrong("row 0\n0\n\n\n", 3)

    def test_the_longest_words(self):
        line = " ".join(["0"] * 399 + ["1"])
        row = Row.read(f"row 0\n{line}\n{line}\n{line}\n")
        self.assertEqual(len(row.left), 400)


if __name__ == "__main__":
    unittest.main()
