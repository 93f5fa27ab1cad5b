"""Promises 1, 2 and 8: FRACTIONs and how they are reckoned with."""

import math
import unittest
from fractions import Fraction

from sawrounds.fractions import (
    ceil_of, floor_of, fraction, less, minus, need_fraction, over, plus, power_of, times,
)
from tests.support import FRACTIONS, MOST, NO_FRACTIONS, NO_INTEGERS, check, check_refused, number, pair

ONE = (1, 1)
NOUGHT = (0, 1)
OF_TWO = [plus, minus, times, over, less]


class Made(unittest.TestCase):
    def test_lowest_terms(self):
        for above, below, wanted in [
            (1, 2, (1, 2)), (2, 4, (1, 2)), (6, 3, (2, 1)), (10, 15, (2, 3)), (7, 7, (1, 1)),
            (0, 1, (0, 1)), (0, 5, (0, 1)), (0, -5, (0, 1)), (-6, 4, (-3, 2)), (6, -4, (-3, 2)),
            (-6, -4, (3, 2)), (1, -1, (-1, 1)), (5, -10, (-1, 2)), (-5, -10, (1, 2)),
        ]:
            with self.subTest(above=above, below=below):
                check(self, fraction(above, below), wanted)

    def test_all_small_ones(self):
        for above in range(-24, 25):
            for below in list(range(-24, 0)) + list(range(1, 25)):
                check(self, fraction(above, below), pair(Fraction(above, below)))

    def test_any_size(self):
        check(self, fraction(MOST, 1), (MOST, 1))
        check(self, fraction(MOST + 1, 1), (MOST + 1, 1))
        check(self, fraction(-MOST - 1, 1), (-MOST - 1, 1))
        check(self, fraction(1, MOST + 1), (1, MOST + 1))
        check(self, fraction(1, -MOST - 1), (-1, MOST + 1))
        check(self, fraction(6 * 7 ** 5000, 4), (3 * 7 ** 5000, 2))
        check(self, fraction(10 ** 5000, 10 ** 5000 * -7), (-1, 7))

    def test_the_first_that_is_no_integer_is_refused(self):
        for wrong in NO_INTEGERS:
            check_refused(self, wrong, fraction, wrong, 2)
            check_refused(self, wrong, fraction, 2, wrong)
            check_refused(self, wrong, fraction, wrong, 0)
            first, second = [wrong], (wrong,)
            check_refused(self, first, fraction, first, second)
            check_refused(self, wrong, fraction, above=wrong, below=None)

    def test_nothing_is_divided_by_nought(self):
        for above in (0, 1, -1, 10 ** 40):
            check_refused(self, 0, fraction, above, 0)

    def test_by_names(self):
        check(self, fraction(below=-4, above=6), (-3, 2))


class Needed(unittest.TestCase):
    def test_fractions_come_back(self):
        for told in FRACTIONS:
            self.assertIs(need_fraction(told), told)
        self.assertIs(need_fraction(value=ONE), ONE)

    def test_all_small_pairs(self):
        for above in range(-12, 13):
            for below in range(-3, 13):
                told = (above, below)
                if below >= 1 and math.gcd(above, below) == 1:
                    self.assertIs(need_fraction(told), told)
                else:
                    check_refused(self, told, need_fraction, told)

    def test_just_the_greatest_numbers(self):
        for told in [(MOST, 1), (-MOST, 1), (1, MOST), (-1, MOST), (MOST, MOST - 1), (MOST - 1, MOST)]:
            self.assertIs(need_fraction(told), told)
        for wrong in [(MOST + 1, 1), (-MOST - 1, 1), (1, MOST + 1), (MOST + 1, MOST), (MOST, MOST + 1)]:
            check_refused(self, wrong, need_fraction, wrong)

    def test_anything_else_is_refused(self):
        for wrong in NO_FRACTIONS:
            check_refused(self, wrong, need_fraction, wrong)
            check_refused(self, wrong, need_fraction, value=wrong)


class Reckoned(unittest.TestCase):
    def test_of_all_two(self):
        for one in FRACTIONS:
            for other in FRACTIONS:
                with self.subTest(one=one, other=other):
                    a, b = number(one), number(other)
                    check(self, plus(one, other), pair(a + b))
                    check(self, minus(one, other), pair(a - b))
                    check(self, times(one, other), pair(a * b))
                    check(self, less(one, other), a < b)
                    if b != 0:
                        check(self, over(one, other), pair(a / b))

    def test_plainly(self):
        check(self, plus((1, 2), (1, 3)), (5, 6))
        check(self, plus((1, 2), (-1, 2)), (0, 1))
        check(self, minus((1, 2), (1, 3)), (1, 6))
        check(self, minus((1, 2), (1, 2)), (0, 1))
        check(self, times((2, 3), (3, 2)), (1, 1))
        check(self, times((-2, 3), (0, 1)), (0, 1))
        check(self, over((1, 2), (-1, 3)), (-3, 2))
        check(self, over((0, 1), (-1, 3)), (0, 1))
        check(self, less((1, 3), (1, 2)), True)
        check(self, less((1, 2), (1, 3)), False)
        check(self, less((1, 2), (1, 2)), False)
        check(self, less((-1, 2), (-1, 3)), True)

    def test_results_may_be_greater_than_what_may_be_handed_in(self):
        check(self, plus((MOST, 1), (MOST, 1)), (2 * MOST, 1))
        check(self, plus((MOST, 1), ONE), (MOST + 1, 1))
        check(self, minus((-MOST, 1), ONE), (-MOST - 1, 1))
        check(self, times((MOST, 1), (MOST, 1)), (MOST * MOST, 1))
        check(self, times((1, MOST), (1, MOST)), (1, MOST * MOST))
        check(self, over((MOST, 1), (1, MOST)), (MOST * MOST, 1))
        check(self, over((-1, MOST), (-MOST, 1)), (1, MOST * MOST))
        check(self, plus((1, MOST), (1, MOST - 1)), (2 * MOST - 1, MOST * (MOST - 1)))

    def test_less_is_exact(self):
        check(self, less((MOST - 1, MOST), ONE), True)
        check(self, less((MOST - 2, MOST - 1), (MOST - 1, MOST)), True)
        check(self, less((MOST - 1, MOST), (MOST - 2, MOST - 1)), False)

    def test_the_first_that_is_no_fraction_is_refused(self):
        for function in OF_TWO:
            for wrong in NO_FRACTIONS:
                with self.subTest(function=function.__name__):
                    check_refused(self, wrong, function, wrong, ONE)
                    check_refused(self, wrong, function, ONE, wrong)
                    check_refused(self, wrong, function, wrong, NOUGHT)
                    check_refused(self, wrong, function, one=wrong, other=None)
                    first, second = [wrong], (wrong,)
                    check_refused(self, first, function, first, second)

    def test_nothing_is_divided_by_nought(self):
        for one in FRACTIONS:
            nought = (one[0] - one[0], 1)
            check_refused(self, nought, over, one, nought)

    def test_by_names(self):
        check(self, plus(other=(1, 3), one=(1, 2)), (5, 6))
        check(self, minus(other=(1, 3), one=(1, 2)), (1, 6))
        check(self, times(other=(1, 3), one=(1, 2)), (1, 6))
        check(self, over(other=(1, 3), one=(1, 2)), (3, 2))
        check(self, less(other=(1, 3), one=(1, 2)), False)


class Rounded(unittest.TestCase):
    def test_floor_and_ceil(self):
        for one in FRACTIONS:
            check(self, floor_of(one), math.floor(number(one)))
            check(self, ceil_of(one), math.ceil(number(one)))

    def test_plainly(self):
        for one, floor, ceil in [
            ((0, 1), 0, 0), ((5, 1), 5, 5), ((-5, 1), -5, -5), ((7, 2), 3, 4), ((-7, 2), -4, -3),
            ((1, 3), 0, 1), ((-1, 3), -1, 0), ((2, 3), 0, 1), ((-2, 3), -1, 0), ((10, 3), 3, 4),
            ((1, MOST), 0, 1), ((-1, MOST), -1, 0), ((MOST, 1), MOST, MOST), ((-MOST, 1), -MOST, -MOST),
        ]:
            with self.subTest(one=one):
                check(self, floor_of(one), floor)
                check(self, ceil_of(one), ceil)
                check(self, floor_of(one=one), floor)
                check(self, ceil_of(one=one), ceil)

    def test_anything_else_is_refused(self):
        for wrong in NO_FRACTIONS:
            check_refused(self, wrong, floor_of, wrong)
            check_refused(self, wrong, ceil_of, wrong)


class Powers(unittest.TestCase):
    def test_small_ones(self):
        for one in FRACTIONS:
            for times_over in (0, 1, 2, 3, 7, 10):
                check(self, power_of(one, times_over), pair(number(one) ** times_over))

    def test_plainly(self):
        check(self, power_of((-2, 3), 3), (-8, 27))
        check(self, power_of((-2, 3), 2), (4, 9))
        check(self, power_of((-2, 3), 1), (-2, 3))
        check(self, power_of(number=2, one=(1, 2)), (1, 4))

    def test_no_factor_and_most_factors(self):
        check(self, power_of((5, 7), 0), (1, 1))
        check(self, power_of((0, 1), 0), (1, 1))
        check(self, power_of((0, 1), 1), (0, 1))
        check(self, power_of((0, 1), 1000), (0, 1))
        check(self, power_of((-1, 1), 999), (-1, 1))
        check(self, power_of((-1, 1), 1000), (1, 1))
        check(self, power_of((2, 3), 1000), (2 ** 1000, 3 ** 1000))
        check(self, power_of((MOST, MOST - 1), 1000), (MOST ** 1000, (MOST - 1) ** 1000))

    def test_numbers_that_are_refused(self):
        for wrong in NO_INTEGERS + [-1, 1001, -1000, 10 ** 40, -10 ** 40]:
            check_refused(self, wrong, power_of, (1, 2), wrong)

    def test_the_fraction_is_asked_first(self):
        for wrong in NO_FRACTIONS:
            check_refused(self, wrong, power_of, wrong, 2)
            check_refused(self, wrong, power_of, wrong, 0)
            check_refused(self, wrong, power_of, wrong, 1001)
            check_refused(self, wrong, power_of, number=None, one=wrong)


if __name__ == "__main__":
    unittest.main()
