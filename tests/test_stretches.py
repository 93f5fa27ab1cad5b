"""Promises 5, 19, 20 and 21: stretches of HEIGHTs that have one MEAN."""

import math
import unittest
from fractions import Fraction

from sawrounds.spots import spots_after
from sawrounds.stretches import (
    covered, floor_sum, high_end, is_in, low_end, means_order, stretch_length, stretch_of,
)
from tests.support import (
    MOST, NO_HEIGHTS, NO_MEANS, NO_PARTS, check, check_refused, check_refusals, means_up_to, no_numbers, number, pair,
    plain_ends, plain_rhythm, refused, simplest, turned,
)

HALF = (1, 2)
PARTS = [(1, 2), (2, 3), (1, 10), (9, 10), (1, 1000), (999, 1000), (501, 1000)]
MEANS = means_up_to(6, 1, 3) + [(10, 3), (71, 10), (100, 61), (MOST, 1), (MOST, 3)]
LONG = [(301, 300), (599, 300), (487, 300), (597, 299), (10 ** 29 + 3, 293)]


class Refused(unittest.TestCase):
    WRONGS = {
        "part": refused(NO_PARTS),
        "mean": refused(NO_MEANS),
        "height": refused(NO_HEIGHTS),
        "most": refused(no_numbers(1, 300)),
    }

    def test_of_part_and_mean(self):
        for function in (floor_sum, stretch_of, low_end, high_end, stretch_length):
            check_refusals(self, function, {"part": HALF, "mean": (7, 2)}, self.WRONGS)

    def test_of_heights(self):
        for function in (is_in, means_order):
            check_refusals(self, function, {"part": HALF, "mean": (7, 2), "height": (10, 3)}, self.WRONGS)

    def test_covered(self):
        check_refusals(self, covered, {"part": HALF, "most": 7}, self.WRONGS)

    def test_the_height_hangs_on_the_part(self):
        for part in PARTS:
            wrong = pair(number(part) - Fraction(1, 10 ** 20))
            for function in (is_in, means_order):
                function(part, (1, 1), part)
                check_refused(self, wrong, function, part, (1, 1), wrong)

    def test_like_what_was_let_but_not_it(self):
        check(self, high_end(HALF, (1, 1)), (1, 1))
        for wrong in [(True, 1), (1, True), (1.0, 1)]:
            check_refused(self, wrong, high_end, HALF, wrong)
        check(self, covered(HALF, 1), HALF)
        check_refused(self, True, covered, HALF, True)


class FloorSums(unittest.TestCase):
    def test_examples(self):
        check(self, floor_sum(HALF, (7, 2)), (40, 3))
        check(self, floor_sum(mean=(5, 1), part=HALF), (20, 1))

    def test_against_what_is_added_up(self):
        for part in PARTS[:4]:
            x = number(part)
            for mean in MEANS[:12]:
                told = floor_sum(part, mean)
                check(self, told, pair(number(told)))
                many = 500
                total = Fraction(0)
                for at in range(many, 0, -1):
                    total = total * x + at * mean[0] // mean[1]
                # What lies behind is at most the sum of x ** (M - 1) * M * P / Q.
                rest = number(mean) * x ** many * (many / (1 - x) + 1 / (1 - x) ** 2)
                self.assertTrue(total < number(told) <= total + rest)

    def test_by_one_period(self):
        for part in PARTS:
            x = number(part)
            for mean in MEANS + LONG[:2]:
                _, high = plain_ends(part, mean)
                check(self, floor_sum(part, mean), pair(high / (1 - x) ** 2))


class Ends(unittest.TestCase):
    def test_examples(self):
        check(self, stretch_of(HALF, (7, 2)), ((19, 6), (10, 3)))
        check(self, stretch_of(HALF, (10, 3)), ((43, 14), (22, 7)))
        check(self, stretch_of(mean=(5, 1), part=HALF), ((9, 2), (5, 1)))
        check(self, low_end(mean=(7, 2), part=HALF), (19, 6))
        check(self, high_end(mean=(7, 2), part=HALF), (10, 3))
        check(self, stretch_length(mean=(7, 2), part=HALF), (1, 6))

    def test_plainly(self):
        for part in PARTS:
            for mean in MEANS + LONG:
                low, high = plain_ends(part, mean)
                check(self, stretch_of(part, mean), (pair(low), pair(high)))
                check(self, low_end(part, mean), pair(low))
                check(self, high_end(part, mean), pair(high))
                check(self, stretch_length(part, mean), pair(high - low))

    def test_integers(self):
        for part in PARTS:
            for whole in (1, 2, 7, MOST):
                low = pair(whole - 1 + number(part))
                check(self, stretch_of(part, (whole, 1)), (low, (whole, 1)))

    def test_one_greater(self):
        for part in PARTS:
            for mean in MEANS[:15] + LONG[:2]:
                low, high = stretch_of(part, mean)
                more = (pair(number(low) + 1), pair(number(high) + 1))
                check(self, stretch_of(part, (mean[0] + mean[1], mean[1])), more)

    def test_in_order_without_a_height_in_common(self):
        for part in PARTS:
            last = Fraction(0)
            for mean in means_up_to(13, 1, 3):
                low, high = map(number, stretch_of(part, mean))
                self.assertTrue(last < low < high)
                last = high

    def test_between_stretches_are_more_stretches(self):
        # What is left between two neighbours is less, the greater Q is.
        for part in [(1, 2), (2, 3), (1, 10)]:
            high = number(high_end(part, (1, 1)))
            lows = [number(low_end(part, (many + 1, many))) for many in range(1, 200)]
            self.assertEqual(lows, sorted(lows, reverse=True))
            self.assertTrue(0 < lows[-1] - high < Fraction(1, 10 ** 15))
            low = number(low_end(part, (2, 1)))
            highs = [number(high_end(part, (2 * many - 1, many))) for many in range(1, 200)]
            self.assertEqual(highs, sorted(highs))
            self.assertTrue(0 < low - highs[-1] < Fraction(1, 10 ** 15))


class InThem(unittest.TestCase):
    def test_examples(self):
        check(self, is_in(HALF, (7, 2), (10, 3)), True)
        check(self, is_in(HALF, (7, 2), (19, 6)), True)
        check(self, is_in(HALF, (7, 2), (13, 4)), True)
        check(self, is_in(HALF, (7, 2), (3, 1)), False)
        check(self, is_in(height=(7, 2), mean=(7, 2), part=HALF), False)
        check(self, means_order(HALF, (7, 2), (3, 1)), -1)
        check(self, means_order(HALF, (7, 2), (13, 4)), 0)
        check(self, means_order(height=(7, 2), mean=(7, 2), part=HALF), 1)

    def test_just_at_both_ends(self):
        seen = 0
        for part in PARTS:
            for mean in MEANS:
                low, high = map(number, stretch_of(part, mean))
                for more, wanted in [(-1, -1), (0, 0), (1, 0)]:
                    seen += self.hold(part, mean, low + more * (high - low) / 1000, wanted)
                for more, wanted in [(-1, 0), (0, 0), (1, 1)]:
                    seen += self.hold(part, mean, high + more * (high - low) / 1000, wanted)
        self.assertGreater(seen, 500)

    def hold(self, part, mean, height, wanted):
        """Holds a HEIGHT against what is wanted, if it may be handed in."""
        told = pair(height)
        if max(told) > MOST or height < number(part):
            return 0
        check(self, means_order(part, mean, told), wanted)
        check(self, is_in(part, mean, told), wanted == 0)
        return 1

    def test_tiny_ways_outside(self):
        for part in [(1, 2), (2, 3), (1, 10)]:
            for mean in [(2, 1), (7, 2), (10, 3), (8, 5)]:
                low, high = map(number, stretch_of(part, mean))
                tiny = Fraction(1, 10 ** 20)
                self.assertEqual(self.hold(part, mean, low - tiny, -1), 1)
                self.assertEqual(self.hold(part, mean, low + tiny, 0), 1)
                self.assertEqual(self.hold(part, mean, high - tiny, 0), 1)
                self.assertEqual(self.hold(part, mean, high + tiny, 1), 1)

    def test_great_heights(self):
        check(self, means_order(HALF, (MOST, 1), (MOST, 1)), 0)
        check(self, means_order(HALF, (MOST, 1), (MOST // 2 * 2 - 1, 2)), -1)
        check(self, means_order(HALF, (MOST - 1, 1), (MOST, 1)), 1)
        check(self, means_order(HALF, (MOST, 1), (MOST - 1, 1)), -1)
        check(self, is_in(HALF, (MOST, 1), (MOST - 1, 1)), False)

    def test_no_too_great(self):
        # This HEIGHT is in the stretch of (302, 301), which is no MEAN.
        part = (9, 10)
        height = pair(simplest(*plain_ends(part, (302, 301))))
        self.assertLess(max(height), MOST)
        check(self, means_order(part, (301, 300), height), -1)
        check(self, means_order(part, (1, 1), height), 1)
        check(self, is_in(part, (301, 300), height), False)

    def test_means_with_the_greatest_q(self):
        part = (9, 10)
        for mean in [(301, 300), (599, 300), (487, 300)]:
            height = pair(simplest(*plain_ends(part, mean)))
            check(self, means_order(part, mean, height), 0)
            low, high = plain_ends(part, mean)
            below = pair(simplest(low - (high - low), low - (high - low) / 10 ** 6))
            above = pair(simplest(high + (high - low) / 10 ** 6, high + (high - low)))
            check(self, means_order(part, mean, below), -1)
            check(self, means_order(part, mean, above), 1)

    def test_all_rounds_of_the_stretch_are_the_rhythm(self):
        for part in [(1, 2), (2, 3), (1, 10), (9, 10)]:
            for mean in means_up_to(6, 1, 3):
                rhythm = plain_rhythm(mean)
                all_turned = {turned(rhythm, phase, 40) for phase in range(mean[1])}
                low, high = plain_ends(part, mean)
                tiny = (high - low) / 10 ** 6
                for height in (low, low + tiny, (low + high) / 2, high - tiny, high):
                    for spot in [(1, 1), (1, 2), (1, 10 ** 9), (2, 7)]:
                        rounds, _ = spots_after(part, pair(height), spot, 40)
                        self.assertIn(rounds, all_turned)

    def test_a_little_outside_the_rounds_are_not_the_rhythm(self):
        for part in [(1, 2), (2, 3), (1, 10)]:
            for mean in means_up_to(4, 2, 3):
                low, high = plain_ends(part, mean)
                for height, is_greater in [(low - Fraction(1, 200), False), (high + Fraction(1, 200), True)]:
                    for spot in [(1, 1), (1, 2), (1, 10 ** 9), (2, 7)]:
                        rounds, _ = spots_after(part, pair(height), spot, 400)
                        exact = 400 * number(mean)
                        if is_greater:
                            self.assertGreater(sum(rounds), math.ceil(exact))
                        else:
                            self.assertLess(sum(rounds), math.floor(exact))


class Covered(unittest.TestCase):
    def test_examples(self):
        check(self, covered(HALF, 1), (1, 2))
        check(self, covered(HALF, 2), (2, 3))
        check(self, covered(most=1, part=(2, 3)), (1, 3))

    def test_stretch_by_stretch(self):
        for part in PARTS:
            for most in (1, 2, 3, 4, 5, 6, 12, 17):
                means = [mean for mean in means_up_to(most, 1, 2) if mean != (1, 1)]
                total = sum(high - low for low, high in (plain_ends(part, mean) for mean in means))
                check(self, covered(part, most), pair(total))

    def test_it_rises_towards_one(self):
        for part in PARTS:
            x = number(part)
            last = Fraction(0)
            for most in (1, 2, 5, 10, 30):
                told = number(covered(part, most))
                self.assertTrue(last < told < 1)
                last = told
                # The bound of what is left, its Qs from 60 on taken together by more than they are.
                rest = sum(q * x ** (q - 1) / (1 - x ** q) for q in range(most + 1, 60))
                rest += x ** 59 * (60 / (1 - x) + 1 / (1 - x) ** 2) / (1 - x ** 60)
                self.assertLessEqual(1 - told, (1 - x) ** 2 * rest)

    def test_three_hundred(self):
        told = covered(HALF, 300)
        self.assertTrue(number(covered(HALF, 299)) < number(told) < 1)
        self.assertLess(1 - number(told), Fraction(1, 2 ** 280))
        more = number(told) - number(covered(HALF, 299))
        # phi(300) is 80.
        self.assertEqual(more, 80 * number(stretch_length(HALF, (301, 300))))
        great = covered((999, 1000), 300)
        self.assertEqual(math.gcd(*great), 1)
        self.assertTrue(0 < great[0] < great[1])


if __name__ == "__main__":
    unittest.main()
