"""Promises 44, 45 and 46: settings for a mean, means for heights."""

import itertools
import math
import unittest
from fractions import Fraction

from sawrounds.errors import NoMean
from sawrounds.means import mean_of, mean_of_setting
from sawrounds.settings import height_of, need_setting, setting_of
from sawrounds.stretches import stretch_length
from sawrounds.wanted import keeps_for, limits_for, means_between, safe_for, simplest_between, steps_for
from tests.support import (
    MOST, NO_FRACTIONS, NO_HEIGHTS, NO_MEANS, NO_PARTS, NO_STEPS, TOO_GREAT, check, check_error, check_refusals,
    check_refused, check_too_great, height_for, means_up_to, no_numbers, number, pair, plain_ends, refused,
)

HALF = (1, 2)
PARTS = [(1, 2), (2, 3), (1, 10), (9, 10), (1, 1000), (999, 1000)]
MEANS = [(1, 1), (2, 1), (5, 1), (3, 2), (7, 2), (10, 3), (13, 8), (1000, 1), (299, 100)]
WRONGS = {
    "mean": refused(NO_MEANS),
    "step": refused(NO_STEPS),
    "limit": refused(NO_FRACTIONS),
    "part": refused(NO_PARTS),
    "keep": refused(NO_FRACTIONS),
    "low": refused(NO_HEIGHTS),
    "high": refused(NO_HEIGHTS),
    "height": refused(NO_HEIGHTS),
    "most": refused(no_numbers(1, 60)),
}
# Numbers that LIMIT, STEP and KEEP may be.
NUMBERS = [(0, 1), (10, 1), (-7, 3), (22, 7), (1, 10 ** 9), (-(10 ** 9), 1)]
STEPS = [(1, 1), (3, 2), (1, 10 ** 9), (10 ** 9, 7)]


def may_be_handed_in(setting):
    """Whether all four numbers are small enough."""
    return all(max(abs(one[0]), one[1]) <= MOST for one in setting)


def is_setting(setting):
    """Whether four numbers are a setting, by Python's own fractions."""
    limit, step, part, keep = map(number, setting)
    return step > 0 and part * (limit + step) + keep <= limit


def nearby(low, high):
    """(number, side): both ends, numbers between them, a little below and above."""
    tiny = Fraction(1, 10 ** 9) * (high - low)
    return [
        (low, 0), (high, 0), ((low + high) / 2, 0), (low + tiny, 0), (high - tiny, 0), (low - tiny, -1),
        (high + tiny, 1), (low - (high - low), -1), (high + (high - low), 1),
    ]


class Settings(unittest.TestCase):
    def test_refusals(self):
        rights = {"mean": (5, 1), "limit": (10, 1), "step": (1, 1), "part": HALF, "keep": (0, 1)}

        def of(*names):
            return {name: rights[name] for name in names}

        check_refusals(self, limits_for, of("mean", "step", "part", "keep"), WRONGS)
        check_refusals(self, steps_for, of("mean", "limit", "part", "keep"), WRONGS)
        check_refusals(self, keeps_for, of("mean", "limit", "step", "part"), WRONGS)

    def test_examples(self):
        check(self, limits_for((5, 1), (1, 1), HALF, (0, 1)), ((9, 1), (10, 1)))
        check(self, limits_for(keep=(0, 1), part=HALF, step=(1, 1), mean=(5, 1)), ((9, 1), (10, 1)))
        check(self, steps_for((5, 1), (10, 1), HALF, (0, 1)), ((1, 1), (10, 9)))
        check(self, steps_for(keep=(0, 1), part=HALF, limit=(10, 1), mean=(5, 1)), ((1, 1), (10, 9)))
        check(self, keeps_for((5, 1), (10, 1), (1, 1), HALF), ((0, 1), (1, 2)))
        check(self, keeps_for(part=HALF, step=(1, 1), limit=(10, 1), mean=(5, 1)), ((0, 1), (1, 2)))

    def test_by_the_ends_of_the_stretch(self):
        for mean in MEANS:
            for part in PARTS:
                low, high = plain_ends(part, mean)
                rest = 1 - number(part)
                for one, step in itertools.product(NUMBERS, STEPS):
                    wanted = [(height * number(step) + number(one)) / rest for height in (low, high)]
                    check(self, limits_for(mean, step, part, one), tuple(map(pair, wanted)))
                    wanted = [rest * number(one) - height * number(step) for height in (high, low)]
                    check(self, keeps_for(mean, one, step, part), tuple(map(pair, wanted)))

    def test_steps_by_the_ends_of_the_stretch(self):
        seen = 0
        for mean in MEANS:
            for part in PARTS:
                low, high = plain_ends(part, mean)
                for limit, keep in itertools.product(NUMBERS, NUMBERS):
                    way = (1 - number(part)) * number(limit) - number(keep)
                    if way > 0:
                        check(self, steps_for(mean, limit, part, keep), (pair(way / high), pair(way / low)))
                    else:
                        seen += 1
                        check_error(self, NoMean, (), steps_for, mean, limit, part, keep)
        self.assertGreater(seen, 100)

    def test_no_mean(self):
        for mean in MEANS:
            check_error(self, NoMean, (), steps_for, mean, (10, 1), HALF, (5, 1))
            check_error(self, NoMean, (), steps_for, mean, (0, 1), HALF, (0, 1))
            check_error(self, NoMean, (), steps_for, mean, (10, 1), HALF, (MOST, 1))
            steps_for(mean, (10, 1), HALF, pair(5 - Fraction(1, 10 ** 29)))
        check_refused(self, (2, 2), steps_for, (5, 1), (0, 1), HALF, (2, 2))

    def check_nearby(self, ends, setting, place, mean, falls):
        """Fails unless just the numbers between the ends give the mean."""
        for told, side in nearby(*map(number, ends)):
            there = setting[:place] + (pair(told),) + setting[place + 1:]
            if may_be_handed_in(there):
                if side == 0:
                    need_setting(there)
                    check(self, mean_of_setting(there), mean)
                elif is_setting(there):
                    try:
                        other = number(mean_of_setting(there))
                    except ValueError:
                        continue
                    self.assertEqual(other < number(mean), (side < 0) != falls)
                    self.assertNotEqual(other, number(mean))
                elif told > 0 or place != 1:
                    # Only LIMITs below, STEPs and KEEPs above are none of a setting.
                    self.assertEqual(side, 1 if falls else -1)

    def test_means_of_the_settings(self):
        for mean in MEANS[:8]:
            for part in PARTS[:4]:
                setting = ((10, 1), (1, 3), part, (-2, 1))
                limit, step, _, keep = setting
                self.check_nearby(limits_for(mean, step, part, keep), setting, 0, mean, False)
                self.check_nearby(steps_for(mean, limit, part, keep), setting, 1, mean, True)
                self.check_nearby(keeps_for(mean, limit, step, part), setting, 3, mean, True)

    def test_great_means(self):
        mean = (MOST, 1)
        check(self, limits_for(mean, (1, 1), HALF, (0, 1)), ((2 * MOST - 1, 1), (2 * MOST, 1)))
        check(self, keeps_for(mean, (0, 1), (1, 1), HALF), ((-MOST, 1), (1 - 2 * MOST, 2)))
        check(self, steps_for(mean, (MOST, 1), HALF, (0, 1)), ((1, 2), (MOST, 2 * MOST - 1)))
        mean = (MOST - 2, 7)
        low, high = plain_ends((2, 3), mean)
        check(self, limits_for(mean, (1, 1), (2, 3), (0, 1)), (pair(3 * low), pair(3 * high)))

    def test_long_rhythms(self):
        for mean in [(301, 300), (599, 300), (487, 300)]:
            low, high = plain_ends((9, 10), mean)
            check(self, limits_for(mean, (1, 1), (9, 10), (0, 1)), (pair(10 * low), pair(10 * high)))
        wrong = (302, 301)
        check_refused(self, wrong, limits_for, wrong, (1, 1), (9, 10), (0, 1))


def meets(part, mean, low, high):
    """Whether the mean's stretch has a height from low to high."""
    least, greatest = plain_ends(part, mean)
    return least <= high and low <= greatest


def plain_between(part, low, high, most):
    """All means with Q up to most that have a height, each looked at."""
    return tuple(
        mean for mean in means_up_to(most, math.ceil(low) - 1 or 1, math.ceil(high)) if meets(part, mean, low, high)
    )


def heights_tried():
    """(part, low, high): at ends of stretches, between them, one height alone."""
    found = []
    for part in PARTS[:4]:
        told = [number(part), 1, Fraction(3, 2), Fraction(31, 10), Fraction(33, 10), Fraction(10, 3), 2, Fraction(19, 6)]
        for mean in [(3, 2), (7, 2), (13, 8)]:
            told += plain_ends(part, mean)
        told = sorted({Fraction(one) for one in told if one >= number(part)})
        for low, high in itertools.combinations_with_replacement(told, 2):
            found.append((part, pair(low), pair(high)))
    return [row for row in found if max(max(row[1]), max(row[2])) <= MOST]


TRIED = heights_tried()


class Between(unittest.TestCase):
    def test_refusals(self):
        rights = {"part": HALF, "low": (31, 10), "high": (33, 10)}
        check_refusals(self, simplest_between, rights, WRONGS)
        check_refusals(self, means_between, rights | {"most": 7}, WRONGS)

    def test_high_below_low(self):
        for low, high in [((33, 10), (31, 10)), ((2, 1), (1, 1)), ((MOST, 1), (MOST - 1, 1)), ((1, 1), (MOST - 1, MOST))]:
            check_refused(self, high, simplest_between, HALF, low, high)
            for most in (1, 60, 0, None):
                check_refused(self, high, means_between, HALF, low, high, most)
            # What is no HEIGHT is told first.
            check_refused(self, (1, 3), simplest_between, HALF, (1, 3), high)
            check_refused(self, (1, 3), simplest_between, HALF, low, (1, 3))

    def test_refusals_are_ahead_of_too_great(self):
        for wrong in (0, 61, True, None, (1, 1)):
            check_refused(self, wrong, means_between, HALF, (1, 1), (MOST, 1), wrong)
        for part, height in TOO_GREAT:
            wrong = pair(number(height) - Fraction(1, 10 ** 20))
            check_refused(self, wrong, simplest_between, part, height, wrong)

    def test_examples(self):
        check(self, simplest_between(HALF, (31, 10), (33, 10)), (7, 2))
        check(self, simplest_between(high=(33, 10), low=(31, 10), part=HALF), (7, 2))
        check(self, means_between(HALF, (31, 10), (33, 10), 1), ())
        check(self, means_between(HALF, (31, 10), (33, 10), 2), ((7, 2),))
        check(self, means_between(most=5, high=(33, 10), low=(31, 10), part=HALF), ((10, 3), (17, 5), (7, 2)))
        check(self, means_between(HALF, (1, 1), (3, 1), 1), ((1, 1), (2, 1), (3, 1)))
        check(self, simplest_between(HALF, (1, 1), (3, 1)), (1, 1))
        check(self, simplest_between(HALF, (11, 10), (3, 1)), (2, 1))

    def test_simplest_plainly(self):
        for part, low, high in TRIED:
            wanted = None
            least = math.ceil(number(low))
            for below in range(1, 14):
                for above in range(max(1, least - 1) * below, math.ceil(number(high)) * below + 1):
                    if wanted is None and math.gcd(above, below) == 1:
                        if meets(part, (above, below), number(low), number(high)):
                            wanted = (above, below)
            if wanted is None:
                try:
                    self.assertGreater(simplest_between(part, low, high)[1], 13)
                except ValueError:
                    check_too_great(self, 300, simplest_between, part, low, high)
            else:
                check(self, simplest_between(part, low, high), wanted)

    def test_between_plainly(self):
        for at, (part, low, high) in enumerate(TRIED):
            for most in (1, 2, 3, 5, 8, 13 if at % 3 == 0 else 4, 30 if at % 20 == 0 else 6):
                wanted = plain_between(part, number(low), number(high), most)
                check(self, means_between(part, low, high, most), wanted)

    def test_one_height(self):
        for part in PARTS:
            for mean in [(1, 1), (7, 2), (13, 8), (100, 61), (487, 300)]:
                height = height_for(part, mean)
                if max(height) <= MOST:
                    check(self, simplest_between(part, height, height), mean)
                    for most in (1, 2, 7, 8, 60):
                        wanted = (mean,) if mean[1] <= most else ()
                        check(self, means_between(part, height, height, most), wanted)

    def test_too_great(self):
        for part, height in TOO_GREAT:
            check_too_great(self, 300, simplest_between, part, height, height)
            check(self, means_between(part, height, height, 60), ())
        part = (999, 1000)
        high = pair(number((302, 301)) + Fraction(1, 10 ** 9))
        check_too_great(self, 300, simplest_between, part, (302, 301), high)
        # From the gap behind the last mean up to that mean's stretch.
        last = height_for((9, 10), (301, 300))
        low = height_for((9, 10), (302, 301))
        check_too_great(self, 300, simplest_between, (9, 10), low, low)
        check(self, simplest_between((9, 10), low, last), (301, 300))
        check(self, simplest_between((9, 10), last, last), (301, 300))

    def test_long_rows(self):
        # There are 1102 fractions above 1 and up to 2 with Q up to 60.
        check(self, means_between(HALF, (1, 1), (2, 1), 60), tuple(means_up_to(60, 1, 2)))
        self.assertEqual(len(means_up_to(60, 1, 2)), 1103)
        check_too_great(self, 2000, means_between, HALF, (1, 1), (3, 1), 60)
        check_too_great(self, 2000, means_between, HALF, (1, 1), (MOST, 1), 60)
        check_too_great(self, 2000, means_between, HALF, (1, 1), (MOST, 1), 1)
        check(self, means_between(HALF, (1, 1), (2000, 1), 1), tuple((whole, 1) for whole in range(1, 2001)))
        check_too_great(self, 2000, means_between, HALF, (1, 1), (2001, 1), 1)
        check_too_great(self, 2000, means_between, HALF, (1, 1), (4001, 2), 1)

    def test_far_up(self):
        low, high = (MOST - 1, 1), (MOST, 1)
        wanted = tuple((above + (MOST - 2) * below, below) for above, below in means_up_to(5, 1, 2))
        check(self, means_between(HALF, low, high, 5), wanted)
        check(self, simplest_between(HALF, low, high), (MOST - 1, 1))
        check(self, simplest_between(HALF, (2 * 10 ** 29 + 1, 2), (2 * 10 ** 29 + 1, 2)), (10 ** 29 + 1, 1))

    def test_others_stay_with_a_greater_most(self):
        for part, low, high in TRIED[::9]:
            ahead = ()
            for most in range(1, 20):
                means = means_between(part, low, high, most)
                self.assertEqual(tuple(mean for mean in means if mean[1] < most), ahead)
                self.assertEqual(list(means), sorted(means, key=number))
                ahead = means


class Safe(unittest.TestCase):
    def test_refusals(self):
        check_refusals(self, safe_for, {"part": HALF, "height": (10, 3)}, WRONGS)
        for part, height in TOO_GREAT:
            check_too_great(self, 300, safe_for, part, height)

    def test_examples(self):
        check(self, safe_for(HALF, (10, 3)), ((1, 6), (0, 1)))
        check(self, safe_for(height=(19, 6), part=HALF), ((0, 1), (1, 6)))
        check(self, safe_for(HALF, HALF), ((0, 1), (1, 2)))
        check(self, safe_for(HALF, (MOST, 1)), ((1, 2), (0, 1)))

    def test_by_the_ends(self):
        for part in PARTS:
            for mean in MEANS:
                low, high = plain_ends(part, mean)
                for height, side in nearby(low, high):
                    if side == 0 and max(pair(height)) <= MOST:
                        down, up = safe_for(part, pair(height))
                        check(self, (down, up), (pair(height - low), pair(high - height)))
                        check(self, stretch_length(part, mean), pair(number(down) + number(up)))

    def test_just_so_much_is_let(self):
        tiny = Fraction(1, 10 ** 12)
        for part in PARTS[:4]:
            for mean in MEANS[:6]:
                height = height_for(part, mean)
                down, up = map(number, safe_for(part, height))
                for change, same in [(-down, True), (up, True), (-down - tiny, False), (up + tiny, False)]:
                    there = number(height) + change
                    if there >= number(part) and max(pair(there)) <= MOST:
                        try:
                            got = mean_of(part, pair(there))
                        except ValueError:
                            got = None
                        self.assertEqual(got == mean, same)

    def test_settings(self):
        setting = setting_of(HALF, (33, 10))
        check(self, safe_for(HALF, height_of(setting)), ((2, 15), (1, 30)))

    def test_heights_whose_mean_may_not_be_handed_in(self):
        part, half = (9, 10), (3, 2)
        great = (MOST - 1, 2)
        check(self, safe_for(part, great), safe_for(part, half))


if __name__ == "__main__":
    unittest.main()
