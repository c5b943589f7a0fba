"""Ratios: point [24] and the interface of borderflow/ratios.py."""

import unittest
from fractions import Fraction

from borderflow.errors import InvalidNumber
from borderflow.ratios import Ratio, count_ratio
from tests.cases import Case


class Ratios(Case):
    def same(self, ratio, top, bottom):
        self.assertIs(type(ratio), Ratio)
        self.assertEqual((ratio.top, ratio.bottom), (top, bottom))

    def test_lowest_terms(self):
        self.same(Ratio(2, 6), 1, 3)
        self.same(Ratio(12, 8), 3, 2)
        self.same(Ratio(5), 5, 1)
        self.same(Ratio(0, 7), 0, 1)
        self.same(Ratio(0), 0, 1)
        self.same(Ratio(bottom=4, top=2), 1, 2)

    def test_wrong_numbers(self):
        for wrong in (-1, True, False, None, "1", (1,), [1], Ratio(1)):
            self.fails(InvalidNumber, (wrong,), Ratio, wrong)
            self.fails(InvalidNumber, (wrong,), Ratio, 1, wrong)
            self.fails(InvalidNumber, (wrong,), count_ratio, wrong, 2)
            self.fails(InvalidNumber, (wrong,), count_ratio, 1, wrong)
        self.fails(InvalidNumber, (0,), Ratio, 1, 0)
        self.fails(InvalidNumber, (-2,), Ratio, -2, -3)
        self.fails(InvalidNumber, (True,), Ratio, True, False)

    def test_products(self):
        for one in range(5):
            for two in range(1, 5):
                for three in range(5):
                    for four in range(1, 5):
                        product = Ratio(one, two) * Ratio(three, four)
                        told = Fraction(one, two) * Fraction(three, four)
                        self.same(product, told.numerator, told.denominator)

    def test_reciprocal(self):
        self.same(~Ratio(2, 3), 3, 2)
        self.same(~Ratio(1), 1, 1)
        self.fails(InvalidNumber, (0,), lambda: ~Ratio(0))

    def test_powers(self):
        self.same(Ratio(2, 3).raised(3), 8, 27)
        self.same(Ratio(2, 3) ** -2, 9, 4)
        self.same(Ratio(2, 3).raised(k=0), 1, 1)
        self.same(Ratio(0) ** 0, 1, 1)
        self.same(Ratio(0) ** 3, 0, 1)
        self.same(Ratio(3) ** 99, 3 ** 99, 1)
        self.same(Ratio(3) ** -99, 1, 3 ** 99)
        self.fails(InvalidNumber, (0,), Ratio(0).raised, -1)
        self.fails(InvalidNumber, (0,), lambda: Ratio(0) ** -1)

    def test_power_of_a_prime(self):
        ratio = Ratio(8 * 3 * 61, 25 * 59)
        told = {2: 3, 3: 1, 5: -2, 7: 0, 59: -1, 61: 1}
        for prime, power in told.items():
            self.assertEqual(ratio.power(prime), power)
        self.assertEqual(Ratio(1).power(prime=2), 0)
        self.assertEqual((Ratio(2) ** 99 * Ratio(2) ** 99).power(2), 198)

    def test_all_primes_up_to_61(self):
        for number in range(-1, 70):
            if 2 <= number <= 61 and all(number % part for part in range(2, number)):
                self.assertEqual(Ratio(number, 97).power(number), 1)
                self.assertEqual(Ratio(97, number ** 2).power(number), -2)
            else:
                self.fails(InvalidNumber, (number,), Ratio(97).power, number)

    def test_wrong_primes(self):
        for wrong in (-2, 0, 1, 4, 9, 57, 60, 62, 67, True, False, None, "2", (2,), [2]):
            self.fails(InvalidNumber, (wrong,), Ratio(2).power, wrong)
            self.fails(InvalidNumber, (wrong,), Ratio(0).power, wrong)
        self.fails(InvalidNumber, (0,), Ratio(0).power, 2)

    def test_equal(self):
        self.assertTrue(Ratio(2, 4) == Ratio(1, 2))
        self.assertFalse(Ratio(2, 4) != Ratio(1, 2))
        for other in (Ratio(1, 3), Ratio(2), 1, "1/2", None, (1, 2), Fraction(1, 2)):
            self.assertFalse(Ratio(1, 2) == other)
            self.assertTrue(Ratio(1, 2) != other)

    def test_texts(self):
        self.assertEqual(str(Ratio(6, 2)), "3")
        self.assertEqual(str(Ratio(2, 6)), "1/3")
        self.assertEqual(str(Ratio(0, 5)), "0")
        self.assertEqual(repr(Ratio(6, 2)), "Ratio(3, 1)")
        self.assertEqual(repr(Ratio(2, 6)), "Ratio(1, 3)")

    def test_long_texts(self):
        long = Ratio(10).raised(99).raised(50)
        self.assertEqual(str(long), "1" + "0" * 4950)
        self.assertEqual(repr(long), "Ratio(1" + "0" * 4950 + ", 1)")
        self.assertEqual(str(~long), "1/1" + "0" * 4950)
        self.assertEqual(repr(~long), "Ratio(1, 1" + "0" * 4950 + ")")
        many = long.top * 10 ** 60
        self.assertEqual(str(count_ratio(many - 1, many)), "9" * 5010 + "/1" + "0" * 5010)
        self.assertEqual(str(Ratio(7 * many + 30)), "7" + "0" * 5008 + "30")

    def test_texts_of_each_length(self):
        for digits in range(1, 300):
            for number in (10 ** digits - 1, 10 ** digits, 10 ** digits + 1, int("123456789" * digits)):
                self.assertEqual(str(Ratio(number)), str(number))

    def test_always_true(self):
        self.assertTrue(bool(Ratio(0)))

    def test_unchanged(self):
        one, other = Ratio(2, 3), Ratio(5, 7)
        (one * other, ~one, one ** 3, one.power(2))
        self.same(one, 2, 3)
        self.same(other, 5, 7)

    def test_count_ratio(self):
        self.same(count_ratio(10 ** 40, 4 * 10 ** 40), 1, 4)
        self.same(count_ratio(part=3, whole=9), 1, 3)
        self.fails(InvalidNumber, (0,), count_ratio, 0, 0)


if __name__ == "__main__":
    unittest.main()
