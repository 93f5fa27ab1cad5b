"""Promises 38 and 39: levels in the long run."""

import unittest
from fractions import Fraction

from sawrounds.averages import excess, level_range, mean_level, point_levels, sum_within, ticks_above, waste
from sawrounds.means import mean_of_setting
from sawrounds.settings import height_of, moved, scaled, setting_of
from tests.support import (
    FIRST, MOST, NO_FRACTIONS, NO_STARTS, SECOND, TOO_GREAT, check, check_error, check_refusals, check_refused,
    check_too_great, height_for, means_up_to, no_numbers, number, pair, plain_ends, plain_rhythm, plain_ticks, refused,
    wrong_settings,
)

WRONGS = {
    "setting": wrong_settings(),
    "start": refused(NO_STARTS),
    "level": refused(NO_FRACTIONS),
    "ticks": refused(no_numbers(0, 1000)),
}
PARTS = [(1, 2), (2, 3), (1, 10), (9, 10), (999, 1000)]
OF_SETTING = (point_levels, mean_level, level_range, waste)
GREAT_SETTINGS = [setting_of(part, height) for part, height in TOO_GREAT]


def settings_tried():
    """Settings at both ends of stretches and in them, some moved and scaled."""
    found = [FIRST, SECOND, setting_of((1, 2), (1, 2)), setting_of((1, 2), (3, 4)), setting_of((1, 2), (1, 1))]
    for part in PARTS:
        for mean in means_up_to(3, 1, 2) + [(7, 2), (10, 3), (13, 8)]:
            low, high = plain_ends(part, mean)
            for at, height in enumerate((low, high, (low + high) / 2, (2 * low + high) / 3)):
                if max(pair(height)) <= MOST // 10 ** 6:
                    setting = setting_of(part, pair(height))
                    found.append(moved(scaled(setting, (3, 7)), (22, 7)) if at % 2 else setting)
    return found


SETTINGS = settings_tried()


def plain_points(setting):
    """The points by phases: the one that the mean's rounds lead back to itself."""
    part, height, mean = number(setting[2]), number(height_of(setting)), mean_of_setting(setting)
    things = plain_rhythm(mean)
    # Q rounds lead from z to PART ** Q times z, and a number: this number from 0.
    rest = 0
    for ticks in things:
        rest = part * rest - height + ticks
    points = [Fraction(rest) / (1 - part ** len(things))]
    for ticks in things:
        points.append(part * points[-1] - height + ticks)
    if points.pop() != points[0]:
        raise AssertionError("the points were misread")
    return points


def plain_levels(setting):
    """The levels at the points, those of each phase in a row of their own."""
    limit, step, part, keep = map(number, setting)
    rows = []
    for point, ticks in zip(plain_points(setting), plain_rhythm(mean_of_setting(setting))):
        rows.append([part * (limit + step * point) + keep + at * step for at in range(ticks)])
    return rows


def all_of(rows):
    """The levels of all phases in one row."""
    return [level for row in rows for level in row]


def starts_tried(setting):
    """Starts at LIMIT, a little and further below it."""
    limit, step = number(setting[0]), number(setting[1])
    return [pair(limit - step * way) for way in (0, Fraction(1, 7), Fraction(3, 4), 1, Fraction(12, 7), 7)]


class Refused(unittest.TestCase):
    def test_in_order(self):
        for function in OF_SETTING:
            check_refusals(self, function, {"setting": SECOND}, WRONGS)
        check_refusals(self, ticks_above, {"setting": SECOND, "level": (7, 1)}, WRONGS)
        check_refusals(self, sum_within, {"setting": SECOND, "start": (0, 1), "ticks": 7}, WRONGS)
        check_refusals(self, excess, {"setting": SECOND, "start": (0, 1)}, WRONGS)

    def test_too_great(self):
        for setting in GREAT_SETTINGS:
            for function in OF_SETTING:
                check_too_great(self, 300, function, setting)
            check_too_great(self, 300, ticks_above, setting, (7, 1))
            check_too_great(self, 300, excess, setting, (0, 1))
            for ticks in (0, 1, 1000):
                check_too_great(self, 300, sum_within, setting, (0, 1), ticks)

    def test_refusals_are_ahead_of_too_great(self):
        for setting in GREAT_SETTINGS:
            for wrong in ((1, 1), (2, 2), None):
                check_refused(self, wrong, excess, setting, wrong)
                check_refused(self, wrong, sum_within, setting, wrong, 5)
            for wrong in (-1, 1001, True, None):
                check_refused(self, wrong, sum_within, setting, (0, 1), wrong)
            for wrong in ((2, 2), None, 3):
                check_refused(self, wrong, ticks_above, setting, wrong)

    def test_levels_up_to_a_thousand(self):
        for above, many in [((1000, 1), 1000), ((1999, 2), 1999), ((1001, 1), 1001), ((999, 1), 999)]:
            setting = setting_of((1, 2), height_for((1, 2), above))
            self.assertEqual(mean_of_setting(setting), above)
            if many <= 1000:
                self.assertEqual(len(point_levels(setting)), many)
            else:
                check_too_great(self, 1000, point_levels, setting)
            mean_level(setting), level_range(setting), waste(setting), ticks_above(setting, (-3, 1))
        setting = setting_of((9, 10), height_for((9, 10), (1000, 299)))
        self.assertEqual(len(point_levels(setting)), 1000)
        setting = setting_of((9, 10), height_for((9, 10), (1001, 298)))
        check_too_great(self, 1000, point_levels, setting)
        # A Q above 300 is told first.
        setting = setting_of((9, 10), height_for((9, 10), (1002, 301)))
        check_too_great(self, 300, point_levels, setting)


class AtThePoints(unittest.TestCase):
    def test_examples(self):
        check(self, point_levels(FIRST), ((5, 1), (6, 1), (7, 1), (8, 1), (9, 1)))
        check(self, mean_level(FIRST), (7, 1))
        check(self, waste(FIRST), (3, 1))
        check(self, level_range(FIRST), ((5, 1), (9, 1)))
        check(self, ticks_above(FIRST, (7, 1)), 2)
        check(self, ticks_above(level=(7, 1), setting=FIRST), 2)
        for function in OF_SETTING:
            check(self, function(setting=FIRST), function(FIRST))
        # At the high end of (7, 2): the points 0 and 2/3, rounds of 4 and of 3.
        wanted = ((5, 1), (13, 2), (8, 1), (19, 2), (11, 2), (7, 1), (17, 2))
        check(self, point_levels(SECOND), wanted)
        check(self, mean_level(SECOND), (50, 7))

    def test_plainly(self):
        self.assertGreater(len(SETTINGS), 60)
        for setting in SETTINGS:
            levels = all_of(plain_levels(setting))
            self.assertEqual(len(levels), mean_of_setting(setting)[0])
            check(self, point_levels(setting), tuple(pair(level) for level in levels))
            check(self, mean_level(setting), pair(sum(levels) / len(levels)))
            check(self, level_range(setting), (pair(min(levels)), pair(max(levels))))
            check(self, waste(setting), pair(number(setting[0]) - sum(levels) / len(levels)))

    def test_how_many_are_above(self):
        for setting in SETTINGS:
            levels = all_of(plain_levels(setting))
            step = number(setting[1])
            tried = [min(levels) - step, max(levels) + step, min(levels), max(levels)]
            tried += [at for one in levels[::3] for at in (one, one - step / 10 ** 9, one + step / 10 ** 9)]
            for level in [pair(one) for one in tried] + [(MOST, 1), (-MOST, 1), (0, 1)]:
                if max(abs(level[0]), level[1]) <= MOST:
                    wanted = sum(one > number(level) for one in levels)
                    check(self, ticks_above(setting, level), wanted)

    def test_long_rhythms(self):
        part = (9, 10)
        setting = moved(setting_of(part, height_for(part, (523, 300))), (5, 3))
        rows = plain_levels(setting)
        levels = all_of(rows)
        self.assertEqual(len(levels), 523)
        check(self, point_levels(setting), tuple(pair(level) for level in levels))
        check(self, mean_level(setting), pair(sum(levels) / len(levels)))
        check(self, level_range(setting), (pair(min(levels)), pair(max(levels))))
        for level in [(0, 1), (1, 1), (3, 2), (5, 3), (2, 1)]:
            check(self, ticks_above(setting, level), sum(one > number(level) for one in levels))

    def test_great_heights(self):
        setting = ((MOST, 1), (7, MOST), (1, 3), (0, 1))
        p, q = mean_of_setting(setting)
        limit, step, part, keep = map(number, setting)
        things = plain_rhythm((p, q))
        points = plain_points(setting)
        bases = [part * (limit + step * point) + keep for point in points]
        rises = sum(ticks * base + step * ticks * (ticks - 1) / 2 for ticks, base in zip(things, bases))
        check(self, mean_level(setting), pair(rises / p))
        check(self, waste(setting), pair(limit - rises / p))
        highest = max(base + (ticks - 1) * step for ticks, base in zip(things, bases))
        check(self, level_range(setting), (pair(min(bases)), pair(highest)))
        check(self, ticks_above(setting, (MOST, 1)), 0)
        check(self, ticks_above(setting, (0, 1)), p)
        check_too_great(self, 1000, point_levels, setting)
        # Half way up each round there are as many ticks above as up to it.
        level = (MOST * 2 // 3, 1)
        wanted = sum(min(ticks, max(0, ticks - 1 - (number(level) - base) // step)) for ticks, base in zip(things, bases))
        check(self, ticks_above(setting, level), int(wanted))
        self.assertGreater(wanted, p // 3)

    def test_moved_and_scaled(self):
        for setting in SETTINGS[::4]:
            mean = number(mean_level(setting))
            there = moved(setting, (7, 3))
            check(self, mean_level(there), pair(mean + Fraction(7, 3)))
            check(self, waste(there), waste(setting))
            there = scaled(setting, (3, 11))
            check(self, mean_level(there), pair(mean * Fraction(3, 11)))
            check(self, waste(there), pair(number(waste(setting)) * Fraction(3, 11)))


class OfAStart(unittest.TestCase):
    def plain_excess(self, setting, start):
        """The excess: that of the first Q rounds, which comes again PART ** Q times as great."""
        mean = mean_of_setting(setting)
        part = number(setting[2])
        behind = plain_ticks(setting, start, 400)
        cuts = [at for at, (_, is_cut) in enumerate(behind) if is_cut]
        first = cuts[0]
        rounds = [after - ahead for ahead, after in zip(cuts, cuts[1:])][:mean[1]]
        things = plain_rhythm(mean)
        phase = [things[at:] + things[:at] for at in range(len(things))].index(tuple(rounds))
        rows = plain_levels(setting)
        above = sum(level for level, _ in behind[first:first + mean[0]]) - sum(all_of(rows[phase:] + rows[:phase]))
        return above / (1 - part ** mean[1])

    def test_examples(self):
        check(self, excess(FIRST, (0, 1)), (5, 1))
        check(self, excess(start=(0, 1), setting=FIRST), (5, 1))
        check(self, excess(FIRST, (19, 2)), (5, 2))
        check(self, sum_within(FIRST, (0, 1), 0), (0, 1))
        check(self, sum_within(FIRST, (0, 1), 1), (1, 1))
        check(self, sum_within(FIRST, (0, 1), 10), (55, 1))
        check(self, sum_within(FIRST, (0, 1), 11), (121, 2))
        check(self, sum_within(ticks=12, start=(0, 1), setting=FIRST), (67, 1))

    def test_sums_plainly(self):
        for setting in SETTINGS:
            for start in starts_tried(setting)[::2] + [pair(number(setting[0]) - 10 ** 20)]:
                behind = plain_ticks(setting, start, 60)
                for ticks in (0, 1, 2, 3, 4, 5, 9, 20, 60):
                    wanted = sum(level for level, _ in behind[:ticks])
                    check(self, sum_within(setting, start, ticks), pair(wanted))

    def test_a_thousand_ticks(self):
        for setting in (SECOND, setting_of((1, 2), (1, 2)), setting_of((999, 1000), height_for((999, 1000), (7, 4)))):
            wanted = sum(level for level, _ in plain_ticks(setting, (-1, 3), 1000))
            check(self, sum_within(setting, (-1, 3), 1000), pair(wanted))

    def test_excess_plainly(self):
        for setting in SETTINGS:
            for start in starts_tried(setting):
                check(self, excess(setting, start), pair(self.plain_excess(setting, start)))

    def test_sums_of_rounds(self):
        for setting in SETTINGS[::2]:
            p, q = mean_of_setting(setting)
            part = number(setting[2])
            mean = number(mean_level(setting))
            for start in starts_tried(setting)[::2]:
                behind = plain_ticks(setting, start, 100)
                first = [is_cut for _, is_cut in behind].index(True)
                more = number(excess(setting, start))
                for periods in (1, 2, 3):
                    got = sum(level for level, _ in behind[first:first + periods * p])
                    rounds = periods * q
                    self.assertEqual(got, periods * p * mean + more - part ** rounds * more)
                    within = number(sum_within(setting, start, first + periods * p))
                    self.assertEqual(got, within - number(sum_within(setting, start, first)))

    def test_above_at_and_below_the_point(self):
        # At the HEIGHT 33/10 the points are 1/15 and 11/15, the arcs part at 3/5.
        setting = setting_of((1, 2), (33, 10))
        for spot, sign in [((1, 30), -1), ((1, 15), 0), ((1, 2), 1), ((7, 10), -1), ((11, 15), 0), ((1, 1), 1)]:
            start = pair(number(spot) - 1)
            got = excess(setting, start)
            self.assertEqual((got[0] > 0) - (got[0] < 0), sign)
            if sign == 0:
                check(self, got, (0, 1))

    def test_the_mean_of_many_ticks(self):
        for setting in SETTINGS[::3]:
            if setting[2] != (999, 1000):
                start = starts_tried(setting)[2]
                far = number(sum_within(setting, start, 1000)) / 1000
                low, high = map(number, level_range(setting))
                apart = abs(far - number(mean_level(setting)))
                self.assertTrue(apart < (high - low + number(setting[1])) / 20)

    def test_moved_and_scaled(self):
        for setting in SETTINGS[::5]:
            for start in starts_tried(setting)[::2]:
                more = number(excess(setting, start))
                there = pair(number(start) + Fraction(7, 3))
                check(self, excess(moved(setting, (7, 3)), there), pair(more))
                there = pair(number(start) * Fraction(3, 11))
                check(self, excess(scaled(setting, (3, 11)), there), pair(more * Fraction(3, 11)))


class Errors(unittest.TestCase):
    def test_a_setting_ahead_of_all(self):
        for function, rest in [(ticks_above, (None,)), (sum_within, (None, None)), (excess, (None,))]:
            for wrong, kind, told in WRONGS["setting"][:5]:
                check_error(self, kind, told, function, wrong, *rest)


if __name__ == "__main__":
    unittest.main()
