"""Promises 5, 6, 7, 22 and 23: the MEAN of a HEIGHT, and the search for it."""

import math
import unittest
from fractions import Fraction

from sawrounds.means import is_mean, mean_after, mean_of, mean_of_setting
from sawrounds.settings import height_of, moved, scaled, setting_of
from sawrounds.spots import spots_after
from sawrounds.ticks import rounds_after
from tests.support import (
    FIRST, MOST, NO_HEIGHTS, NO_MEANS, NO_PARTS, SECOND, TOO_GREAT, check, check_refused, check_refusals,
    check_too_great, height_for, means_up_to, no_numbers, number, pair, plain_ends, plain_rhythm, refused, turned,
    wrong_settings,
)

HALF = (1, 2)
PARTS = [(1, 2), (2, 3), (1, 10), (9, 10), (1, 1000), (999, 1000)]
SPOTS = [(1, 1), (1, 2), (1, 3), (1, MOST), (MOST - 1, MOST), (89, 100)]
WRONGS = {
    "part": refused(NO_PARTS),
    "height": refused(NO_HEIGHTS),
    "steps": refused(no_numbers(0, 400)),
    "setting": wrong_settings(),
}
# The one that the search comes to last, and those that it comes just not to.
LAST = ((9, 10), height_for((9, 10), (301, 300)))
BEHIND = ((9, 10), height_for((9, 10), (302, 301)))


def heights_told():
    """(part, height, mean): heights at the ends of stretches and in them."""
    found = []
    for part in PARTS:
        for mean in means_up_to(7, 1, 3) + [(71, 10), (100, 61)]:
            low, high = plain_ends(part, mean)
            for height in (low, high, (low + high) / 2, low + (high - low) / 99, high - (high - low) / 10 ** 6):
                if max(pair(height)) <= MOST:
                    found.append((part, pair(height), mean))
    for part in [(9, 10), (99, 100)]:
        for mean in [(301, 300), (599, 300), (487, 300), (597, 299), (100, 61), (3001, 300)]:
            found.append((part, height_for(part, mean), mean))
    return found


TOLD = heights_told()


class Refused(unittest.TestCase):
    def test_mean_of(self):
        check_refusals(self, mean_of, {"part": HALF, "height": (10, 3)}, WRONGS)

    def test_mean_of_setting(self):
        check_refusals(self, mean_of_setting, {"setting": FIRST}, WRONGS)

    def test_mean_after(self):
        check_refusals(self, mean_after, {"part": HALF, "height": (10, 3), "steps": 3}, WRONGS)

    def test_is_mean(self):
        rights = {"part": HALF, "height": (10, 3), "value": (7, 2)}
        check_refusals(self, is_mean, rights, WRONGS | {"value": []})

    def test_the_height_hangs_on_the_part(self):
        for part in PARTS:
            check(self, mean_of(part, part), (1, 1))
            check(self, is_mean(part, part, (1, 1)), True)
            check(self, mean_after(part, part, 7), ((0, 1), (1, 1), (1, 1)))
            wrong = pair(number(part) - Fraction(1, 10 ** 20))
            check_refused(self, wrong, mean_of, part, wrong)
            check_refused(self, wrong, is_mean, part, wrong, (1, 1))
            check_refused(self, wrong, mean_after, part, wrong, 0)

    def test_refusals_are_ahead_of_too_great(self):
        for part, height in TOO_GREAT:
            for wrong in (-1, 401, True, None):
                check_refused(self, wrong, mean_after, part, height, wrong)


class MeanOf(unittest.TestCase):
    def test_examples(self):
        check(self, mean_of(HALF, (10, 3)), (7, 2))
        check(self, mean_of(height=(5, 1), part=HALF), (5, 1))
        check(self, mean_of_setting(FIRST), (5, 1))
        check(self, mean_of_setting(setting=SECOND), (7, 2))

    def test_ends_and_between(self):
        self.assertGreater(len(TOLD), 400)
        for part, height, mean in TOLD:
            check(self, mean_of(part, height), mean)

    def test_whole_heights(self):
        for part in PARTS:
            for whole in (1, 2, 3, 1000, MOST - 1, MOST):
                check(self, mean_of(part, (whole, 1)), (whole, 1))

    def test_just_one_mean(self):
        for part, height, mean in TOLD[::3]:
            if mean[1] <= 7:
                fitting = []
                for other in means_up_to(7, 1, 3):
                    low, high = plain_ends(part, other)
                    if low <= number(height) <= high:
                        fitting.append(other)
                self.assertEqual(fitting, [mean])

    def test_too_great(self):
        for part, height in TOO_GREAT:
            check_too_great(self, 300, mean_of, part, height)
            check_too_great(self, 300, mean_of_setting, setting_of(part, height))
            check_too_great(self, 300, mean_of_setting, moved(setting_of(part, height), (7, 3)))

    def test_just_not_too_great(self):
        check(self, mean_of(*LAST), (301, 300))
        check_too_great(self, 300, mean_of, *BEHIND)

    def test_the_mean_may_be_greater_than_what_may_be_handed_in(self):
        part, half = (9, 10), (3, 2)
        mean = mean_of(part, half)
        self.assertGreater(mean[1], 2)
        great = (MOST - 1, 2)
        wanted = ((great[0] - 3) // 2 * mean[1] + mean[0], mean[1])
        self.assertGreater(wanted[0], MOST)
        check(self, mean_of(part, great), wanted)
        check(self, is_mean(part, great, wanted), False)

    def test_settings_of_great_heights(self):
        setting = ((MOST, 1), (1, MOST), (1, 2), (0, 1))
        check(self, mean_of_setting(setting), (MOST ** 2 // 2, 1))
        setting = ((MOST, 1), (7, MOST), (1, 3), (0, 1))
        mean = mean_of_setting(setting)
        low, high = plain_ends((1, 3), mean)
        self.assertTrue(low <= number(height_of(setting)) <= high)
        self.assertGreater(mean[0], MOST)

    def test_settings(self):
        for part, height, mean in TOLD[::2]:
            plain = setting_of(part, height)
            check(self, mean_of_setting(plain), mean)
            if max(height) < MOST // 1000:
                for setting in (moved(plain, (22, 7)), scaled(plain, (3, 11)), moved(scaled(plain, (7, 2)), (-1, 3))):
                    check(self, mean_of_setting(setting), mean)

    def test_with_a_greater_height_never_less(self):
        for part in PARTS:
            heights = sorted({number(height) for one, height, _ in TOLD if one == part})
            means = [number(mean_of(part, pair(height))) for height in heights]
            self.assertEqual(means, sorted(means))

    def test_height_and_one_more(self):
        for part, height, mean in TOLD[::3]:
            more = pair(number(height) + 1)
            if max(more) <= MOST:
                check(self, mean_of(part, more), (mean[0] + mean[1], mean[1]))

    def test_how_far_from_the_height(self):
        for part, height, mean in TOLD:
            rest = number(mean) - number(height)
            self.assertTrue(0 <= rest <= 1 - number(part))


class IsMean(unittest.TestCase):
    def test_just_the_mean(self):
        means = means_up_to(7, 1, 3)
        for part, height, mean in TOLD[::3]:
            check(self, is_mean(part, height, mean), True)
            for other in means:
                check(self, is_mean(part, height, other), other == mean)
        check(self, is_mean(value=(7, 2), height=(10, 3), part=HALF), True)

    def test_values_of_any_kind(self):
        for part, height, mean in TOLD[::40]:
            for value in NO_MEANS + [list(mean), mean + (1,), mean[:1], mean[::-1] + (0,), str(mean), (mean,)]:
                check(self, is_mean(part, height, value), False)

    def test_like_the_mean_but_not_it(self):
        check(self, is_mean(HALF, HALF, (1, 1)), True)
        for value in [(True, 1), (1, True), (True, True), (1.0, 1), (Fraction(1), 1), [1, 1], (2, 2), (-1, -1), 1]:
            check(self, is_mean(HALF, HALF, value), False)
        check(self, is_mean(HALF, (10, 3), (14, 4)), False)

    def test_great_values(self):
        check(self, is_mean(HALF, (MOST, 1), (MOST, 1)), True)
        for value in [(MOST + 1, 1), (10 ** 5000, 1), (2 * MOST - 1, 2), (MOST - 1, 1)]:
            check(self, is_mean(HALF, (MOST, 1), value), False)

    def test_no_too_great(self):
        for part, height in TOO_GREAT:
            for value in [(1, 1), (302, 301), (601, 301), (301, 300), None, mean_near(height)]:
                check(self, is_mean(part, height, value), False)
        check(self, is_mean(*LAST, (301, 300)), True)
        check(self, is_mean(*BEHIND, (302, 301)), False)


def mean_near(height):
    """A fraction of the height, whether it is a MEAN or not."""
    return (height[0] + 1, height[1])


class Search(unittest.TestCase):
    def plainly(self, part, height, steps):
        """The state behind so many steps, or None where one raises."""
        whole = math.ceil(number(height))
        left, right, found = (whole - 1, 1), (whole, 1), None
        if self.is_there(part, height, (whole, 1)):
            found = (whole, 1)
        for _ in range(steps):
            if found is None:
                mediant = (left[0] + right[0], left[1] + right[1])
                if mediant[1] > 300:
                    return None
                low, high = plain_ends(part, mediant)
                if number(height) < low:
                    right = mediant
                elif number(height) > high:
                    left = mediant
                else:
                    found = mediant
        return (left, right, found)

    def is_there(self, part, height, mean):
        low, high = plain_ends(part, mean)
        return low <= number(height) <= high

    def test_examples(self):
        check(self, mean_after(HALF, (10, 3), 0), ((3, 1), (4, 1), None))
        check(self, mean_after(HALF, (10, 3), 1), ((3, 1), (4, 1), (7, 2)))
        check(self, mean_after(steps=400, height=(10, 3), part=HALF), ((3, 1), (4, 1), (7, 2)))
        check(self, mean_after(HALF, (5, 1), 0), ((4, 1), (5, 1), (5, 1)))
        check(self, mean_after(HALF, (5, 1), 400), ((4, 1), (5, 1), (5, 1)))

    def test_step_by_step(self):
        for part, height, mean in TOLD:
            if mean[1] <= 100:
                for steps in (0, 1, 2, 3, 5, 9, 40):
                    check(self, mean_after(part, height, steps), self.plainly(part, height, steps))

    def test_facts(self):
        for part, height, mean in TOLD:
            if mean[1] <= 61:
                for steps in range(0, 61, 1 if mean[1] < 8 else 7):
                    left, right, found = mean_after(part, height, steps)
                    self.assertEqual(left[1] * right[0] - left[0] * right[1], 1)
                    if found is None:
                        self.assertTrue(number(left) < number(mean) < number(right))
                    else:
                        check(self, found, mean)

    def test_the_mediant_has_the_least_q(self):
        for part, height, mean in TOLD[::7]:
            left, right, found = mean_after(part, height, 3)
            if found is None and mean[1] < 30:
                low, high = number(left), number(right)
                between = [q for q in range(1, 31) if low < Fraction(math.floor(low * q) + 1, q) < high]
                self.assertEqual(between[0], left[1] + right[1])

    def test_the_last_step_that_finds(self):
        check(self, mean_after(*LAST, 298), ((1, 1), (300, 299), None))
        check(self, mean_after(*LAST, 299), ((1, 1), (300, 299), (301, 300)))
        check(self, mean_after(*LAST, 300), ((1, 1), (300, 299), (301, 300)))
        check(self, mean_after(*LAST, 400), ((1, 1), (300, 299), (301, 300)))
        other = (LAST[0], height_for(LAST[0], (599, 300)))
        check(self, mean_after(*other, 298), ((597, 299), (2, 1), None))
        check(self, mean_after(*other, 299), ((597, 299), (2, 1), (599, 300)))

    def test_the_step_that_raises(self):
        check(self, mean_after(*BEHIND, 299), ((1, 1), (301, 300), None))
        check_too_great(self, 300, mean_after, *BEHIND, 300)
        check_too_great(self, 300, mean_after, *BEHIND, 400)
        for part, height in TOO_GREAT:
            steps = 0
            while self.plainly(part, height, steps) is not None:
                check(self, mean_after(part, height, steps), self.plainly(part, height, steps))
                steps += 1 if steps < 4 else 29
            self.assertLessEqual(steps, 330)
            check_too_great(self, 300, mean_after, part, height, min(steps, 400))

    def test_the_first_step_that_raises(self):
        part, height = TOO_GREAT[2]
        steps = 0
        while self.plainly(part, height, steps) is not None:
            steps += 1
        check(self, mean_after(part, height, steps - 1), self.plainly(part, height, steps - 1))
        check_too_great(self, 300, mean_after, part, height, steps)


class MainFact(unittest.TestCase):
    def test_all_rounds_behind_the_first_cut_are_the_rhythm(self):
        for part, height, mean in TOLD:
            if mean[1] <= 100:
                rhythm = plain_rhythm(mean)
                many = 2 * mean[1] + 3
                fitting = {turned(rhythm, phase, many) for phase in range(mean[1])}
                for spot in SPOTS:
                    self.assertIn(spots_after(part, height, spot, many)[0], fitting)

    def test_from_starts(self):
        for part, height, mean in TOLD[::5]:
            if mean[1] <= 10:
                setting = scaled(setting_of(part, height), (3, 7))
                fitting = {turned(plain_rhythm(mean), phase, 60) for phase in range(mean[1])}
                for start in [(0, 1), (-1, 10 ** 20), (-1, 3), (-3, 7), (-22, 7), (-(10 ** 20) - 1, 3)]:
                    self.assertIn(rounds_after(setting, start, 60)[1], fitting)

    def test_long_rhythms(self):
        for part, height, mean in TOLD[-12:]:
            rounds = spots_after(part, height, (1, 2), 900)[0]
            fitting = {turned(plain_rhythm(mean), phase, 900) for phase in range(mean[1])}
            self.assertIn(rounds, fitting)


if __name__ == "__main__":
    unittest.main()
