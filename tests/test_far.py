"""Promises 30, 31 and 32: far ahead, and two starts."""

import unittest
from fractions import Fraction

from sawrounds.far import cuts_within, near_after, round_at, spot_after, ticks_of_cut, tick_gap, together
from sawrounds.means import mean_of, mean_of_setting
from sawrounds.points import phase_of, points_of, start_phase
from sawrounds.settings import moved, scaled, setting_of
from sawrounds.spots import spots_after
from sawrounds.ticks import cuts_plainly, first_ticks, rounds_after, tick
from tests.support import (
    FIRST, MOST, NO_HEIGHTS, NO_PARTS, NO_SPOTS, NO_STARTS, NO_STEPS, SECOND, TOO_GREAT, check, check_refused,
    check_refusals, check_too_great, height_for, means_up_to, no_numbers, number, pair, plain_ends, plain_rounds,
    refused, wrong_settings,
)

HALF = (1, 2)
PARTS = [(1, 2), (2, 3), (1, 10), (9, 10), (1, 1000), (999, 1000)]
SPOTS = [(1, 1), (1, 2), (1, 3), (1, MOST), (MOST - 1, MOST), (89, 100)]
WRONGS = {
    "setting": wrong_settings(),
    "start": refused(NO_STARTS),
    "other": refused(NO_STARTS),
    "number": refused(no_numbers(0, MOST)),
    "ticks": refused(no_numbers(0, MOST)),
    "part": refused(NO_PARTS),
    "height": refused(NO_HEIGHTS),
    "spot": refused(NO_SPOTS),
    "rounds": refused(no_numbers(0, 1000)),
    "accuracy": refused(NO_STEPS),
}
GREAT_SETTINGS = [setting_of(part, height) for part, height in TOO_GREAT]


def heights_tried():
    """Parts and heights: both ends of stretches, and heights in them."""
    found = []
    for part in PARTS:
        for mean in means_up_to(4, 1, 2) + [(7, 2), (10, 3), (13, 8)]:
            low, high = plain_ends(part, mean)
            for height in (low, high, (low + high) / 2):
                if max(pair(height)) <= MOST:
                    found.append((part, pair(height)))
    found.append(((9, 10), height_for((9, 10), (100, 61))))
    return found


TRIED = heights_tried()


def settings_tried():
    """Settings of the heights, some of them moved and scaled."""
    found = [FIRST, SECOND]
    for at, (part, height) in enumerate(TRIED[::3]):
        setting = setting_of(part, height)
        if at % 2 and max(height) < MOST // 1000:
            setting = moved(scaled(setting, (3, 7)), (22, 7))
        found.append(setting)
    return found


SETTINGS = settings_tried()


def starts_tried(setting):
    """Starts at LIMIT, a little and further below it."""
    limit, step = number(setting[0]), number(setting[1])
    lower = [0, Fraction(1, 10 ** 20), step / 3, step * Fraction(3, 4), step, step * Fraction(12, 7), 7 * step]
    return [pair(limit - one) for one in lower]


class Refused(unittest.TestCase):
    def test_of_cuts(self):
        for function, name in [(ticks_of_cut, "number"), (cuts_within, "ticks"), (round_at, "number")]:
            check_refusals(self, function, {"setting": SECOND, "start": (0, 1), name: 7}, WRONGS)

    def test_of_spots(self):
        rights = {"part": HALF, "height": (10, 3), "spot": (1, 1)}
        check_refusals(self, spot_after, rights | {"rounds": 7}, WRONGS)
        check_refusals(self, near_after, rights | {"accuracy": (1, 1000)}, WRONGS)

    def test_of_two_starts(self):
        for function in (together, tick_gap):
            check_refusals(self, function, {"setting": SECOND, "start": (0, 1), "other": (1, 1)}, WRONGS)

    def test_too_great(self):
        for setting in GREAT_SETTINGS:
            for function, rest in self.of_settings():
                check_too_great(self, 300, function, setting, (0, 1), rest)
                check_too_great(self, 300, function, setting, (-MOST, 1), rest)
        for part, height in TOO_GREAT:
            for rounds in (0, 1, 1000):
                check_too_great(self, 300, spot_after, part, height, (1, 1), rounds)
            for accuracy in [(1, 1), (MOST, 1), (1, MOST)]:
                check_too_great(self, 300, near_after, part, height, (1, 1), accuracy)

    def of_settings(self):
        """The functions of settings, each with a last parameter that is let."""
        return [(ticks_of_cut, 0), (cuts_within, 0), (round_at, 0), (together, (0, 1)), (tick_gap, (0, 1))]

    def test_refusals_are_ahead_of_too_great(self):
        for setting in GREAT_SETTINGS:
            for function, rest in self.of_settings():
                for wrong in ((1, MOST), (2, 2), None):
                    check_refused(self, wrong, function, setting, wrong, rest)
                    check_refused(self, wrong, function, setting, (0, 1), wrong)
            for wrong in (-1, MOST + 1, True):
                for function in (ticks_of_cut, cuts_within, round_at):
                    check_refused(self, wrong, function, setting, (0, 1), wrong)
        for part, height in TOO_GREAT:
            for wrong in (-1, 1001, True, None):
                check_refused(self, wrong, spot_after, part, height, (1, 1), wrong)
            for wrong in ((0, 1), (-1, 2), None):
                check_refused(self, wrong, near_after, part, height, (1, 1), wrong)
                check_refused(self, wrong, near_after, part, height, wrong, (1, 1))

    def test_like_what_was_let_but_not_it(self):
        check(self, ticks_of_cut(SECOND, (1, 1), 1), ticks_of_cut(SECOND, (1, 1), 0) + 3)
        for function in (ticks_of_cut, cuts_within, round_at):
            function(SECOND, (1, 1), 1)
            check_refused(self, True, function, SECOND, (1, 1), True)
        wrong = (True, 1)
        check_refused(self, wrong, together, SECOND, (1, 1), wrong)
        check_refused(self, wrong, near_after, HALF, (1, 1), (1, 1), wrong)


class Cuts(unittest.TestCase):
    def test_examples(self):
        for at, wanted in enumerate([1, 4, 8, 11, 15]):
            check(self, ticks_of_cut(SECOND, (10, 1), at), wanted)
        check(self, ticks_of_cut(SECOND, (10, 1), MOST), 1 + 35 * 10 ** 29)
        check(self, ticks_of_cut(number=2, start=(0, 1), setting=FIRST), 21)
        check(self, cuts_within(ticks=20, start=(0, 1), setting=FIRST), 2)
        check(self, round_at(number=1, start=(10, 1), setting=SECOND), 4)

    def test_plainly(self):
        for setting in SETTINGS:
            for start in starts_tried(setting):
                first, rounds = rounds_after(setting, start, 40)
                for at in (0, 1, 2, 3, 4, 5, 17, 40):
                    check(self, ticks_of_cut(setting, start, at), first + sum(rounds[:at]))
                for at in (0, 1, 2, 3, 4, 5, 39):
                    check(self, round_at(setting, start, at), rounds[at])

    def test_counted(self):
        for setting in SETTINGS:
            for start in starts_tried(setting):
                cuts = cuts_plainly(setting, start, 120)
                for ticks in list(range(12)) + [37, 119, 120]:
                    check(self, cuts_within(setting, start, ticks), sum(at <= ticks for at in cuts))

    def test_a_thousand_cuts(self):
        for setting in SETTINGS[::5]:
            for start in starts_tried(setting)[::3]:
                first, rounds = rounds_after(setting, start, 1000)
                check(self, ticks_of_cut(setting, start, 1000), first + sum(rounds))
                check(self, round_at(setting, start, 999), rounds[-1])

    def test_nothing_ahead_of_the_first_cut(self):
        for setting in SETTINGS:
            for start in starts_tried(setting):
                first = first_ticks(setting, start)[0]
                check(self, cuts_within(setting, start, 0), 0)
                check(self, cuts_within(setting, start, first - 1), 0)
                check(self, cuts_within(setting, start, first), 1)
        check(self, cuts_within(FIRST, (-MOST, 1), MOST), 0)
        check(self, cuts_within(FIRST, (11 - MOST, 1), MOST), 1)
        check(self, cuts_within(FIRST, (10 - MOST, 1), MOST), 0)
        check(self, cuts_within(FIRST, (-MOST + 10 ** 20, 1), MOST), (10 ** 20 - 11) // 5 + 1)

    def test_far(self):
        for setting in SETTINGS:
            p, q = mean_of_setting(setting)
            for start in starts_tried(setting)[::2]:
                for at in (MOST, MOST - 1, 10 ** 29 + 7):
                    there = ticks_of_cut(setting, start, at)
                    check(self, ticks_of_cut(setting, start, at - q), there - p)
                    then = ticks_of_cut(setting, start, at - 1)
                    check(self, round_at(setting, start, at - 1), there - then)
                    check(self, round_at(setting, start, at), round_at(setting, start, at % q))

    def test_there_and_back(self):
        for setting in SETTINGS:
            for start in starts_tried(setting):
                for at in (0, 1, 2, 3, 50, 10 ** 28, 10 ** 29 // 5):
                    there = ticks_of_cut(setting, start, at)
                    if there <= MOST:
                        check(self, cuts_within(setting, start, there), at + 1)
                        check(self, cuts_within(setting, start, there - 1), at)

    def test_starts_very_far_below(self):
        first, rounds = rounds_after(SECOND, (-MOST, 1), 10)
        for at in range(10):
            check(self, ticks_of_cut(SECOND, (-MOST, 1), at), first + sum(rounds[:at]))
            check(self, round_at(SECOND, (-MOST, 1), at), rounds[at])

    def test_great_heights(self):
        setting = ((MOST, 1), (7, MOST), (1, 3), (0, 1))
        first, rounds = rounds_after(setting, (MOST, 1), 50)
        for at in range(50):
            check(self, ticks_of_cut(setting, (MOST, 1), at), first + sum(rounds[:at]))
            check(self, round_at(setting, (MOST, 1), at), rounds[at])
        check(self, cuts_within(setting, (MOST, 1), MOST), 1)
        check(self, cuts_within(setting, (MOST, 1), 0), 0)


class SpotAfter(unittest.TestCase):
    def test_examples(self):
        check(self, spot_after(HALF, (10, 3), (1, 1), 0), (1, 1))
        check(self, spot_after(HALF, (10, 3), (1, 1), 1), (1, 6))
        check(self, spot_after(rounds=2, spot=(1, 1), height=(10, 3), part=HALF), (3, 4))
        check(self, spot_after(HALF, (5, 1), (1, 1), 1000), (1, 2 ** 1000))

    def test_round_by_round(self):
        for part, height in TRIED:
            for spot in SPOTS:
                spots = plain_rounds(part, height, spot, 70)[1]
                for rounds in (0, 1, 2, 3, 4, 5, 6, 7, 29, 70):
                    check(self, spot_after(part, height, spot, rounds), pair(spots[rounds]))

    def test_a_thousand(self):
        for part, height in TRIED[::17]:
            spots = spots_after(part, height, (1, 3), 1000)[1]
            check(self, spot_after(part, height, (1, 3), 1000), spots[999])
            check(self, spot_after(part, height, (1, 3), 999), spots[998])

    def test_by_points(self):
        for part, height in TRIED[::3]:
            points = points_of(part, height)
            for spot in SPOTS:
                phase = phase_of(part, height, spot)
                way = number(spot) - number(points[phase])
                for rounds in (0, 1, 5, 60):
                    point = number(points[(phase + rounds) % len(points)])
                    then = point + number(part) ** rounds * way
                    check(self, spot_after(part, height, spot, rounds), pair(then))


class NearAfter(unittest.TestCase):
    def plainly(self, part, height, spot, accuracy):
        """The least number of rounds, going from spot to spot."""
        points = [number(point) for point in points_of(part, height)]
        phase = phase_of(part, height, spot)
        many = 0
        now = number(spot)
        while abs(now - points[(phase + many) % len(points)]) > number(accuracy):
            rest = number(part) * now - number(height)
            now = rest + (-rest.numerator // rest.denominator + 1)
            many += 1
        return many

    def test_examples(self):
        # From (1, 1) with the point 0 the spots are 1, 1/2, 1/4, ..
        for accuracy, wanted in [
            ((2, 1), 0), ((1, 1), 0), ((999, 1000), 1), ((1, 2), 1), ((499, 1000), 2), ((1, 4), 2), ((1, 5), 3),
            ((1, 8), 3), ((1, 9), 4), ((1, 1024), 10), ((1, 1025), 11), ((1, 2 ** 99), 99), ((1, 2 ** 99 + 1), 100),
            ((1, 2 ** 99 - 1), 99), ((2, 2 ** 99 + 1), 99), ((2, 2 ** 99 - 1), 98), ((MOST, 1), 0),
        ]:
            check(self, near_after(HALF, (5, 1), (1, 1), accuracy), wanted)
        check(self, near_after(accuracy=(1, 2), spot=(1, 1), height=(5, 1), part=HALF), 1)

    def test_from_spot_to_spot(self):
        for part, height in TRIED:
            if part[1] < 1000 or part[0] == 1:
                for spot in SPOTS[::2] + [(89, 100)]:
                    for accuracy in [(1, 1), (1, 2), (1, 7), (1, 1000), (1, 10 ** 6), (3, 10 ** 5 + 1)]:
                        wanted = self.plainly(part, height, spot, accuracy)
                        check(self, near_after(part, height, spot, accuracy), wanted)

    def test_just_at_the_distance(self):
        for part, height in TRIED:
            points = points_of(part, height)
            for spot in [(1, 1), (1, 2), (89, 100)]:
                distance = abs(number(spot) - number(points[phase_of(part, height, spot)]))
                for many in (0, 1, 2, 3, 4, 7, 8):
                    accuracy = pair(distance * number(part) ** many)
                    if accuracy[0] > 0 and max(accuracy) <= MOST:
                        check(self, near_after(part, height, spot, accuracy), many)
                        less = pair(number(accuracy) - Fraction(1, 10 ** 25))
                        if 0 < less[0] and max(less) <= MOST:
                            check(self, near_after(part, height, spot, less), many + 1)

    def test_a_spot_that_is_its_own_point(self):
        seen = 0
        for part, height in TRIED:
            points = points_of(part, height)
            if points[0][0] > 0:
                for point in points:
                    if max(point) <= MOST:
                        seen += 1
                        check(self, near_after(part, height, point, (1, MOST)), 0)
        self.assertGreater(seen, 20)

    def test_tiny_ones_by_powers(self):
        for part, height in [(HALF, (5, 1)), ((2, 3), (3, 1)), ((9, 10), (3, 1)), ((999, 1000), (3, 1))]:
            # The point is 0, so that the distance from it is the spot.
            for accuracy in [(1, MOST), (1, 10 ** 9 + 7), (7, 10 ** 29 + 1)]:
                many = near_after(part, height, (1, 1), accuracy)
                self.assertLessEqual(part[0] ** many * accuracy[1], part[1] ** many * accuracy[0])
                self.assertGreater(part[0] ** (many - 1) * accuracy[1], part[1] ** (many - 1) * accuracy[0])

    def test_from_below_the_point(self):
        points = points_of(HALF, (33, 10))
        check(self, points, ((1, 15), (11, 15)))
        check(self, phase_of(HALF, (33, 10), (1, 30)), 0)
        for accuracy, wanted in [((1, 30), 0), ((1, 31), 1), ((1, 60), 1), ((1, 61), 2), ((1, 240), 3)]:
            check(self, near_after(HALF, (33, 10), (1, 30), accuracy), wanted)
            check(self, near_after(HALF, (33, 10), (1, 10), accuracy), wanted)


class TwoStarts(unittest.TestCase):
    def cuts(self, setting, start, ticks):
        """The cuts of a start within so many ticks, as a set."""
        first, rounds = rounds_after(setting, start, ticks)
        found = [first]
        for one in rounds:
            found.append(found[-1] + one)
        return {at for at in found if at <= ticks}

    def together_plainly(self, setting, start, other):
        """The first common tick: none if the last ticks are not the same."""
        one, two = self.cuts(setting, start, 200), self.cuts(setting, other, 200)
        alone = sorted(one ^ two)
        if not alone:
            return 1
        if alone[-1] > 100:
            # Then the one is cut alone, and the other one is, again and again.
            late = {at for at in alone if at > 100}
            self.assertTrue(late & one and late & two)
            return None
        return alone[-1] + 1

    def test_plainly(self):
        seen = {None: 0, 1: 0}
        for setting in SETTINGS:
            for start in starts_tried(setting):
                for other in starts_tried(setting):
                    wanted = self.together_plainly(setting, start, other)
                    check(self, together(setting, start, other), wanted)
                    seen[wanted] = seen.get(wanted, 0) + 1
                    gap = tick_gap(setting, start, other)
                    self.assertEqual(gap == 0, wanted is not None)
                    self.assertIn(gap, range(mean_of_setting(setting)[0]))
        self.assertGreater(seen[None], 100)
        self.assertGreater(len(seen), 5)

    def test_examples(self):
        check(self, together(SECOND, (0, 1), (0, 1)), 1)
        check(self, tick_gap(SECOND, (0, 1), (0, 1)), 0)
        check(self, together(SECOND, (10, 1), (17, 2)), None)
        check(self, tick_gap(SECOND, (10, 1), (17, 2)), 1)
        check(self, tick_gap(SECOND, (17, 2), (10, 1)), 6)
        check(self, together(setting=FIRST, start=(0, 1), other=(-5, 1)), 12)
        check(self, tick_gap(other=(-5, 1), start=(0, 1), setting=FIRST), 0)
        check(self, together(other=(0, 1), start=(-5, 1), setting=FIRST), 12)
        check(self, together(FIRST, (0, 1), (-10, 1)), 17)
        check(self, together(FIRST, (0, 1), (-1, 2)), 1)
        check(self, together(FIRST, (0, 1), (1, 2)), None)
        check(self, together(FIRST, (0, 1), (1, 1)), None)

    def test_the_gap_by_its_words(self):
        for setting in SETTINGS:
            p, q = mean_of_setting(setting)
            for start in starts_tried(setting):
                for other in starts_tried(setting):
                    ticks, _, phase = start_phase(setting, start)
                    other_ticks, _, other_phase = start_phase(setting, other)
                    gap = other_ticks - -(-other_phase * p // q) - (ticks - -(-phase * p // q))
                    check(self, tick_gap(setting, start, other), gap % p)

    def test_a_start_and_its_level_one_tick_later(self):
        for setting in SETTINGS:
            p, _ = mean_of_setting(setting)
            for start in starts_tried(setting):
                then, _ = tick(setting, start)
                if max(abs(then[0]), then[1]) <= MOST:
                    check(self, tick_gap(setting, start, then), p - 1)
                    check(self, tick_gap(setting, then, start), 1 % p)
                    check(self, together(setting, start, then) is None, p > 1)

    def test_one_step_apart(self):
        for setting in SETTINGS:
            p, _ = mean_of_setting(setting)
            for start in starts_tried(setting):
                lower = pair(number(start) - number(setting[1]))
                check(self, tick_gap(setting, start, lower), 1 % p)
                check(self, tick_gap(setting, lower, start), p - 1)

    def test_whole_periods_apart(self):
        for setting in SETTINGS:
            p, q = mean_of_setting(setting)
            for start in starts_tried(setting):
                first = first_ticks(setting, start)[0]
                for many in (1, 2, 5):
                    lower = pair(number(start) - many * p * number(setting[1]))
                    check(self, tick_gap(setting, start, lower), 0)
                    # The last cut that start has alone is the one ahead of lower's first one.
                    alone = ticks_of_cut(setting, start, many * q - 1)
                    check(self, together(setting, start, lower), alone + 1)
                    check(self, together(setting, lower, start), alone + 1)
                    self.assertGreaterEqual(alone, first)

    def test_from_then_on_in_the_same_phase_and_nearer_by_part(self):
        for setting in SETTINGS[:2] + SETTINGS[3::6]:
            for start in starts_tried(setting)[:5]:
                for other in starts_tried(setting)[:5]:
                    then = together(setting, start, other)
                    if then is not None:
                        one = [cuts for cuts in self.cuts(setting, start, 150) if cuts >= then]
                        two = [cuts for cuts in self.cuts(setting, other, 150) if cuts >= then]
                        self.assertEqual(one, two)

    def test_very_far_below(self):
        far = (5 - MOST, 1)
        check(self, tick_gap(FIRST, (0, 1), far), 0)
        check(self, together(FIRST, (0, 1), far), 1 + first_ticks(FIRST, far)[0] - 5)
        check(self, together(FIRST, far, (0, 1)), 1 + first_ticks(FIRST, far)[0] - 5)
        check(self, together(FIRST, (-MOST, 1), (-MOST, 1)), 1)
        check(self, together(FIRST, (-MOST, 1), (1 - MOST, 1)), None)
        check(self, tick_gap(FIRST, (-MOST, 1), (1 - MOST, 1)), 4)

    def test_with_rounds_of_one_tick(self):
        setting = setting_of(HALF, (3, 4))
        self.assertEqual(mean_of(HALF, (3, 4)), (1, 1))
        check(self, tick_gap(setting, (0, 1), (-7, 2)), 0)
        check(self, together(setting, (0, 1), (-7, 2)), 4)
        check(self, together(setting, (0, 1), (-1, 2)), 1)


if __name__ == "__main__":
    unittest.main()
