"""Promises 3, 12, 13, 14 and 15: ticks, first ticks, rounds, cuts, highest and lowest."""

import unittest
from fractions import Fraction

from sawrounds.settings import height_of, level_spot, moved, scaled, setting_of
from sawrounds.ticks import (
    cuts_plainly, first_ticks, highest_behind, levels_after, lowest_behind, rounds_after, tick,
)
from tests.support import (
    FIRST, MOST, NO_STARTS, SECOND, check, check_refused, check_refusals, no_numbers, number, pair, plain_rounds,
    plain_ticks, refused, wrong_settings,
)

WRONGS = {
    "setting": wrong_settings(),
    "level": refused(NO_STARTS),
    "start": refused(NO_STARTS),
    "ticks": refused(no_numbers(0, 1000)),
    "count": refused(no_numbers(0, 1000)),
}
WITH_TICKS = [levels_after, cuts_plainly, highest_behind, lowest_behind]


def settings_tried():
    """Settings of many kinds, with the least heights and whole ones among them."""
    found = [FIRST, SECOND, ((10, 1), (10, 1), (1, 2), (0, 1)), ((-3, 1), (1, 2), (1, 2), (-9, 1))]
    for part in [(1, 2), (2, 3), (9, 10), (1, 1000), (999, 1000)]:
        for more in [Fraction(0), Fraction(1, 3), Fraction(5, 2), Fraction(1, 10 ** 6)]:
            plain = setting_of(part, pair(number(part) + more))
            found.append(plain)
            found.append(moved(scaled(plain, (3, 7)), (22, 7)))
        found.append(setting_of(part, (3, 1)))
    return found


SETTINGS = settings_tried()


def starts_tried(setting):
    """Starts of a setting: at LIMIT, a little below it, further below it."""
    limit, step = number(setting[0]), number(setting[1])
    lower = [0, Fraction(1, 10 ** 20), step / 3, step, step * Fraction(5, 3), 7 * step, 30 * step + Fraction(1, 11)]
    return [pair(limit - one) for one in lower]


class Refused(unittest.TestCase):
    def test_tick(self):
        check_refusals(self, tick, {"setting": FIRST, "level": (0, 1)}, WRONGS)

    def test_first_ticks(self):
        check_refusals(self, first_ticks, {"setting": FIRST, "start": (0, 1)}, WRONGS)

    def test_rounds_after(self):
        check_refusals(self, rounds_after, {"setting": FIRST, "start": (0, 1), "count": 3}, WRONGS)

    def test_those_with_ticks(self):
        for function in WITH_TICKS:
            check_refusals(self, function, {"setting": FIRST, "start": (0, 1), "ticks": 12}, WRONGS)

    def test_a_start_just_at_the_limit(self):
        for setting in SETTINGS:
            limit = setting[0]
            above = pair(number(limit) + Fraction(1, 10 ** 25))
            calls = [(tick, []), (first_ticks, []), (rounds_after, [2])] + [(one, [2]) for one in WITH_TICKS]
            for function, rest in calls:
                function(setting, limit, *rest)
                check_refused(self, above, function, setting, above, *rest)

    def test_like_what_was_let_but_not_it(self):
        check(self, levels_after(FIRST, (1, 1), 1), ((2, 1),))
        check_refused(self, True, levels_after, FIRST, (1, 1), True)
        wrong = (True, 1)
        check_refused(self, wrong, levels_after, FIRST, wrong, 1)
        check_refused(self, wrong, tick, FIRST, wrong)


class Tick(unittest.TestCase):
    def test_examples(self):
        check(self, tick(FIRST, (10, 1)), ((11, 2), True))
        check(self, tick(FIRST, (9, 1)), ((10, 1), False))
        check(self, tick(level=(0, 1), setting=SECOND), ((3, 2), False))
        check(self, tick(SECOND, (9, 1)), ((21, 4), True))

    def test_just_the_limit_is_not_cut(self):
        for setting in SETTINGS:
            limit, step, part, keep = map(number, setting)
            check(self, tick(setting, pair(limit - step)), (setting[0], False))
            above = limit - step + Fraction(1, 10 ** 15)
            check(self, tick(setting, pair(above)), (pair(part * (above + step) + keep), True))

    def test_plainly(self):
        for setting in SETTINGS:
            for start in starts_tried(setting):
                level, is_cut = plain_ticks(setting, start, 1)[0]
                check(self, tick(setting, start), (pair(level), is_cut))

    def test_a_cut_leads_to_the_limit_at_most(self):
        # At HEIGHT just PART a cut from LIMIT leads to LIMIT again.
        check(self, tick(((10, 1), (10, 1), (1, 2), (0, 1)), (10, 1)), ((10, 1), True))

    def test_great_levels(self):
        setting = ((MOST, 1), (1, MOST), (1, 2), (0, 1))
        check(self, tick(setting, (MOST, 1)), ((MOST * MOST + 1, 2 * MOST), True))
        check(self, tick(setting, (-MOST, 1)), ((1 - MOST * MOST, MOST), False))


class Levels(unittest.TestCase):
    def test_none(self):
        for setting in SETTINGS:
            check(self, levels_after(setting, setting[0], 0), ())
            check(self, cuts_plainly(setting, setting[0], 0), ())

    def test_examples(self):
        check(self, levels_after(FIRST, (8, 1), 4), ((9, 1), (10, 1), (11, 2), (13, 2)))
        check(self, levels_after(ticks=2, start=(10, 1), setting=SECOND), ((23, 4), (29, 4)))
        check(self, cuts_plainly(FIRST, (0, 1), 20), (11, 16))
        check(self, cuts_plainly(ticks=16, start=(10, 1), setting=SECOND), (1, 4, 8, 11, 15))

    def test_plainly(self):
        for setting in SETTINGS:
            for start in starts_tried(setting):
                told = plain_ticks(setting, start, 60)
                check(self, levels_after(setting, start, 60), tuple(pair(level) for level, _ in told))
                cuts = tuple(at + 1 for at, (_, is_cut) in enumerate(told) if is_cut)
                check(self, cuts_plainly(setting, start, 60), cuts)
                check(self, levels_after(setting, start, 1), (pair(told[0][0]),))

    def test_one_by_one(self):
        for setting in SETTINGS[::3]:
            now = setting[0]
            for level in levels_after(setting, now, 20):
                if max(abs(now[0]), now[1]) > MOST:
                    break
                check(self, tick(setting, now)[0], level)
                now = level

    def test_a_thousand(self):
        for setting in [FIRST, setting_of((999, 1000), (999, 1000)), setting_of((1, 1000), (5, 4))]:
            told = plain_ticks(setting, setting[0], 1000)
            check(self, levels_after(setting, setting[0], 1000), tuple(pair(level) for level, _ in told))
            cuts = tuple(at + 1 for at, (_, is_cut) in enumerate(told) if is_cut)
            check(self, cuts_plainly(setting, setting[0], 1000), cuts)
            levels = [level for level, _ in told]
            check(self, highest_behind(setting, setting[0], 1000), pair(max(levels)))
            check(self, lowest_behind(setting, setting[0], 1000), pair(min(levels)))

    def test_unlike_divisors(self):
        setting = ((10, 3), (7, 11), (3, 5), (-2, 13))
        told = plain_ticks(setting, (-5, 7), 50)
        check(self, levels_after(setting, (-5, 7), 50), tuple(pair(level) for level, _ in told))

    def test_no_level_is_above_the_limit(self):
        for setting in SETTINGS:
            limit, step, part, keep = map(number, setting)
            for start in starts_tried(setting):
                was_cut = False
                for level, is_cut in plain_ticks(setting, start, 60):
                    self.assertLessEqual(level, limit)
                    was_cut = was_cut or is_cut
                    if is_cut:
                        self.assertLessEqual(level, part * limit + keep + part * step)
                    if was_cut:
                        self.assertGreater(level, part * limit + keep)

    def test_in_settings_moved_and_scaled_the_same_is_cut(self):
        for setting in SETTINGS[::2]:
            start = starts_tried(setting)[2]
            higher = pair(number(start) + Fraction(5, 3))
            check(self, cuts_plainly(moved(setting, (5, 3)), higher, 50), cuts_plainly(setting, start, 50))
            more = pair(number(start) * Fraction(5, 3))
            check(self, cuts_plainly(scaled(setting, (5, 3)), more, 50), cuts_plainly(setting, start, 50))


class FirstTicks(unittest.TestCase):
    def test_examples(self):
        check(self, first_ticks(FIRST, (0, 1)), (11, (1, 1)))
        check(self, first_ticks(start=(0, 1), setting=SECOND), (7, (1, 3)))
        check(self, first_ticks(SECOND, (10, 1)), (1, (1, 1)))

    def test_at_and_near_the_limit(self):
        check(self, first_ticks(FIRST, (10, 1)), (1, (1, 1)))
        check(self, first_ticks(FIRST, (10 ** 29 - 1, 10 ** 28)), (1, (10 ** 28 - 1, 10 ** 28)))
        check(self, first_ticks(FIRST, (9, 1)), (2, (1, 1)))
        check(self, first_ticks(FIRST, (9 * 10 ** 28 + 1, 10 ** 28)), (1, (1, 10 ** 28)))

    def test_however_far_off(self):
        check(self, first_ticks(FIRST, (-MOST, 1)), (MOST + 11, (1, 1)))
        check(self, first_ticks(FIRST, (-MOST, 3)), ((MOST + 30) // 3 + 1, (2, 3)))
        check(self, first_ticks(((0, 1), (1, MOST), (1, 2), (-1, 1)), (-MOST, 1)), (MOST * MOST + 1, (1, 1)))
        check(self, first_ticks(((0, 1), (MOST, 1), (1, 2), (-MOST, 1)), (-1, MOST)), (1, (MOST ** 2 - 1, MOST ** 2)))

    def test_plainly(self):
        for setting in SETTINGS:
            for start in starts_tried(setting):
                ticks, spot = first_ticks(setting, start)
                flags = [is_cut for _, is_cut in plain_ticks(setting, start, ticks)]
                self.assertEqual(flags, [False] * (ticks - 1) + [True])
                level = pair(number(start) + ticks * number(setting[1]))
                if max(abs(level[0]), level[1]) <= MOST:
                    check(self, spot, level_spot(setting, level))


class Rounds(unittest.TestCase):
    def test_examples(self):
        check(self, rounds_after(FIRST, (0, 1), 3), (11, (5, 5, 5)))
        check(self, rounds_after(count=4, start=(10, 1), setting=SECOND), (1, (3, 4, 3, 4)))
        check(self, rounds_after(FIRST, (0, 1), 0), (11, ()))

    def test_by_the_spots_rule(self):
        for setting in SETTINGS:
            height = height_of(setting)
            for start in starts_tried(setting):
                ticks, spot = first_ticks(setting, start)
                rounds, _ = plain_rounds(setting[2], height, spot, 25)
                check(self, rounds_after(setting, start, 25), (ticks, rounds))

    def test_the_cuts_are_those_that_first_ticks_and_rounds_tell(self):
        for setting in SETTINGS:
            for start in starts_tried(setting):
                first, rounds = rounds_after(setting, start, 200)
                cuts = [first + sum(rounds[:at]) for at in range(201)]
                check(self, cuts_plainly(setting, start, 200), tuple(one for one in cuts if one <= 200))

    def test_a_thousand(self):
        check(self, rounds_after(FIRST, (-MOST, 1), 1000), (MOST + 11, (5,) * 1000))
        check(self, rounds_after(SECOND, (10, 1), 1000), (1, (3, 4) * 500))
        check(self, rounds_after(SECOND, (10, 1), 999), (1, (3, 4) * 499 + (3,)))

    def test_great_heights(self):
        check(self, rounds_after(((MOST, 1), (1, MOST), (1, 2), (0, 1)), (MOST, 1), 2), (1, (MOST ** 2 // 2,) * 2))


class HighestAndLowest(unittest.TestCase):
    def test_the_start_for_none(self):
        for setting in SETTINGS:
            for start in starts_tried(setting):
                check(self, highest_behind(setting, start, 0), start)
                check(self, lowest_behind(setting, start, 0), start)

    def test_examples(self):
        check(self, highest_behind(FIRST, (10, 1), 1), (11, 2))
        check(self, lowest_behind(FIRST, (10, 1), 1), (11, 2))
        check(self, highest_behind(FIRST, (0, 1), 9), (9, 1))
        check(self, lowest_behind(FIRST, (0, 1), 9), (1, 1))
        check(self, highest_behind(ticks=20, start=(8, 1), setting=FIRST), (10, 1))
        check(self, lowest_behind(ticks=20, start=(8, 1), setting=FIRST), (81, 16))

    def test_plainly(self):
        for setting in SETTINGS:
            for start in starts_tried(setting):
                levels = [level for level, _ in plain_ticks(setting, start, 45)]
                for ticks in (1, 2, 3, 7, 45):
                    check(self, highest_behind(setting, start, ticks), pair(max(levels[:ticks])))
                    check(self, lowest_behind(setting, start, ticks), pair(min(levels[:ticks])))


class Order(unittest.TestCase):
    def test_the_higher_one_has_as_many_cuts_or_more(self):
        for setting in SETTINGS:
            step = number(setting[1])
            starts = sorted(map(number, starts_tried(setting)))
            cuts = {one: cuts_plainly(setting, pair(one), 80) for one in starts}
            for low in starts:
                for high in starts:
                    if low < high:
                        self.hold(cuts[low], cuts[high], high - low <= step)

    def hold(self, of_low, of_high, is_near):
        """Holds the cuts of two starts against one another."""
        for ticks in range(81):
            more = sum(one <= ticks for one in of_high) - sum(one <= ticks for one in of_low)
            self.assertGreaterEqual(more, 0)
            if is_near:
                self.assertLessEqual(more, 1)
        for low, high in zip(of_low, of_high):
            self.assertLessEqual(high, low)

    def test_a_start_lower_by_a_step(self):
        for setting in SETTINGS:
            for start in starts_tried(setting):
                lower = pair(number(start) - number(setting[1]))
                if max(abs(lower[0]), lower[1]) <= MOST:
                    check(self, tick(setting, lower), (start, False))
                    ticks, spot = first_ticks(setting, start)
                    check(self, first_ticks(setting, lower), (ticks + 1, spot))


if __name__ == "__main__":
    unittest.main()
