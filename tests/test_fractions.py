"""[f1], [c3]: fractions."""

import fractions
import math
import unittest

import homingtrue.fractions
from homingtrue.fractions import is_less, lowest, minus, over, plus, times

NOUGHT = (0, 1)
LARGE = 10 ** 40
SAMPLE = sorted({
    (p // math.gcd(p, q), q // math.gcd(p, q))
    for p in range(-7, 8) for q in range(1, 8)
} | {(LARGE, 1), (-LARGE, 1), (1, LARGE), (-1, LARGE), (LARGE + 1, LARGE),
     (LARGE - 1, LARGE), (1 - LARGE, LARGE), (9999, 1440), (-9999, 9998)})


def known(fraction):
    return fractions.Fraction(fraction[0], fraction[1])


def pair(value):
    return (value.numerator, value.denominator)


class Lowest(unittest.TestCase):
    def test_terms_are_lowest(self):
        for p, q, told in [
                (6, 4, (3, 2)), (3, 2, (3, 2)), (4, 6, (2, 3)),
                (100, 10, (10, 1)), (1, 1, (1, 1)), (7, 1, (7, 1)),
                (1, 9999, (1, 9999)), (360, 1440, (1, 4))]:
            with self.subTest(p=p, q=q):
                self.assertEqual(lowest(p, q), told)

    def test_the_denominator_is_at_least_1(self):
        for p, q, told in [
                (-6, 4, (-3, 2)), (6, -4, (-3, 2)), (-6, -4, (3, 2)),
                (1, -1, (-1, 1)), (-1, -1, (1, 1)), (5, -10, (-1, 2)),
                (-7, 3, (-7, 3)), (7, -3, (-7, 3))]:
            with self.subTest(p=p, q=q):
                self.assertEqual(lowest(p, q), told)

    def test_nought_is_written_in_one_way(self):
        for q in (1, 2, 7, 1440, LARGE, -1, -2, -7, -LARGE):
            with self.subTest(q=q):
                self.assertEqual(lowest(0, q), NOUGHT)

    def test_whole_numbers_have_the_denominator_1(self):
        for n in (-3, -1, 1, 2, 50):
            for q in (-6, -1, 1, 4):
                with self.subTest(n=n, q=q):
                    self.assertEqual(lowest(n * q, q), (n, 1))

    def test_equal_fractions_are_equal_tuples(self):
        for k in (-LARGE, -9, -1, 1, 2, 1440, LARGE):
            with self.subTest(k=k):
                self.assertEqual(lowest(3 * k, 5 * k), (3, 5))
                self.assertEqual(lowest(-3 * k, 5 * k), (-3, 5))

    def test_large_numbers_stay_exact(self):
        self.assertEqual(lowest(LARGE * 6, LARGE * 4), (3, 2))
        self.assertEqual(lowest(LARGE + 1, LARGE), (LARGE + 1, LARGE))
        self.assertEqual(lowest(2 * LARGE + 2, -2 * LARGE), (-LARGE - 1, LARGE))
        self.assertEqual(lowest(1, -LARGE), (-1, LARGE))

    def test_small_numbers_against_the_library(self):
        for p in range(-30, 31):
            for q in range(-30, 31):
                if q != 0:
                    with self.subTest(p=p, q=q):
                        self.assertEqual(lowest(p, q), pair(fractions.Fraction(p, q)))


class Reckoning(unittest.TestCase):
    def test_sums(self):
        self.assertEqual(plus((1, 2), (1, 3)), (5, 6))
        self.assertEqual(plus((1, 6), (1, 3)), (1, 2))
        self.assertEqual(plus((1, 2), (1, 2)), (1, 1))
        self.assertEqual(plus((1, 2), (-1, 2)), NOUGHT)
        self.assertEqual(plus((-1, 2), (-1, 3)), (-5, 6))
        self.assertEqual(plus(NOUGHT, NOUGHT), NOUGHT)
        self.assertEqual(plus(NOUGHT, (-3, 4)), (-3, 4))
        self.assertEqual(plus((2, 1), (3, 1)), (5, 1))

    def test_differences(self):
        self.assertEqual(minus((1, 2), (1, 3)), (1, 6))
        self.assertEqual(minus((1, 3), (1, 2)), (-1, 6))
        self.assertEqual(minus((5, 6), (1, 3)), (1, 2))
        self.assertEqual(minus((3, 4), (3, 4)), NOUGHT)
        self.assertEqual(minus((-1, 2), (-1, 2)), NOUGHT)
        self.assertEqual(minus(NOUGHT, (3, 4)), (-3, 4))
        self.assertEqual(minus((7, 2), (1, 2)), (3, 1))

    def test_products(self):
        self.assertEqual(times((2, 3), (3, 4)), (1, 2))
        self.assertEqual(times((-2, 3), (3, 4)), (-1, 2))
        self.assertEqual(times((-2, 3), (-3, 2)), (1, 1))
        self.assertEqual(times((5, 1), (2, 1)), (10, 1))
        self.assertEqual(times(NOUGHT, (-7, 3)), NOUGHT)
        self.assertEqual(times((-7, 3), NOUGHT), NOUGHT)

    def test_quotients(self):
        self.assertEqual(over((1, 2), (3, 4)), (2, 3))
        self.assertEqual(over((1, 2), (-3, 4)), (-2, 3))
        self.assertEqual(over((-1, 2), (-3, 4)), (2, 3))
        self.assertEqual(over((-1, 2), (3, 4)), (-2, 3))
        self.assertEqual(over((6, 1), (3, 1)), (2, 1))
        self.assertEqual(over((3, 1), (6, 1)), (1, 2))
        self.assertEqual(over((-7, 3), (-7, 3)), (1, 1))
        self.assertEqual(over(NOUGHT, (-7, 3)), NOUGHT)

    def test_all_of_the_sample_against_the_library(self):
        for one in SAMPLE:
            for other in SAMPLE:
                a, b = known(one), known(other)
                with self.subTest(one=one, other=other):
                    self.assertEqual(plus(one, other), pair(a + b))
                    self.assertEqual(minus(one, other), pair(a - b))
                    self.assertEqual(times(one, other), pair(a * b))
                    if other != NOUGHT:
                        self.assertEqual(over(one, other), pair(a / b))

    def test_the_answers_are_pairs_of_integers(self):
        for told in [lowest(6, -4), plus((1, 2), (1, 2)), minus((1, 2), (1, 2)),
                     times((1, 2), (2, 1)), over((4, 1), (-2, 1))]:
            with self.subTest(told=told):
                self.assertIs(type(told), tuple)
                self.assertEqual([type(part) for part in told], [int, int])


class Less(unittest.TestCase):
    def test_less_equal_and_greater(self):
        for one, other, told in [
                ((1, 3), (1, 2), True), ((1, 2), (1, 3), False),
                ((1, 2), (1, 2), False), (NOUGHT, NOUGHT, False),
                (NOUGHT, (1, 9999), True), ((1, 9999), NOUGHT, False),
                ((5, 1), (16, 3), True), ((16, 3), (5, 1), False),
                ((9, 2), (5, 1), True), ((2, 1), (2, 1), False)]:
            with self.subTest(one=one, other=other):
                self.assertIs(is_less(one, other), told)

    def test_negative_ones(self):
        for one, other, told in [
                ((-1, 2), (-1, 3), True), ((-1, 3), (-1, 2), False),
                ((-1, 2), (-1, 2), False), ((-1, 2), (1, 3), True),
                ((1, 3), (-1, 2), False), ((-1, 2), NOUGHT, True),
                (NOUGHT, (-1, 2), False), ((-2, 1), (-5, 3), True)]:
            with self.subTest(one=one, other=other):
                self.assertIs(is_less(one, other), told)

    def test_large_ones_that_hardly_differ(self):
        low, high = (LARGE - 1, LARGE), (LARGE, LARGE + 1)
        self.assertIs(is_less(low, high), True)
        self.assertIs(is_less(high, low), False)
        self.assertIs(is_less(high, high), False)

    def test_all_of_the_sample_against_the_library(self):
        for one in SAMPLE:
            for other in SAMPLE:
                with self.subTest(one=one, other=other):
                    self.assertIs(is_less(one, other), known(one) < known(other))


class Interface(unittest.TestCase):
    def test_arguments_have_the_told_names(self):
        self.assertEqual(lowest(p=2, q=4), (1, 2))
        self.assertEqual(plus(one=(1, 2), other=(1, 3)), (5, 6))
        self.assertEqual(minus(one=(1, 2), other=(1, 3)), (1, 6))
        self.assertEqual(times(one=(1, 2), other=(1, 3)), (1, 6))
        self.assertEqual(over(one=(1, 2), other=(1, 3)), (3, 2))
        self.assertIs(is_less(one=(1, 2), other=(1, 3)), False)

    def test_functions_are_defined_in_their_file(self):
        for function in (lowest, plus, minus, times, over, is_less):
            with self.subTest(name=function.__name__):
                self.assertEqual(function.__module__, "homingtrue.fractions")
                self.assertIs(getattr(homingtrue.fractions, function.__name__), function)


if __name__ == "__main__":
    unittest.main()
