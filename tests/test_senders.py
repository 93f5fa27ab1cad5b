"""Promises 33 to 36: senders that are cut together."""

import unittest
from fractions import Fraction

from sawrounds.errors import BadParameter, BadSetting
from sawrounds.senders import deviations, even_from, even_ticks, levels_of, levels_ticked, need_senders, shares_of
from sawrounds.settings import moved, setting_of
from sawrounds.ticks import first_ticks, levels_after, rounds_after
from tests.support import (
    MOST, NO_FRACTIONS, NO_STEPS, TOO_GREAT, Odd, check, check_error, check_refusals, check_refused, check_too_great,
    height_for, no_numbers, number, pair, plain_senders, refused, wrong_senders, wrong_settings,
)

# The setting of the document's example, its senders and levels.
SETTING = ((10, 1), (2, 1), (1, 2), (0, 1))
SENDERS = ((1, 1), (1, 1))
LEVELS = ((9, 1), (0, 1))
NO_LEVELS = [
    None, True, 0, 2, "", "ab", [], list(LEVELS), {}, set(LEVELS), (), LEVELS[:1], LEVELS + ((0, 1),), (0, 1),
    LEVELS + LEVELS, object(), Odd(), ((9, 1), (2, 1)), ((10, 1), (1, MOST)), ((MOST, 1), (11 - MOST, 1)),
    ((21, 2), (0, 1)), ((-1, 2), (32, 3)),
] + [(wrong, (0, 1)) for wrong in NO_FRACTIONS] + [((9, 1), wrong) for wrong in NO_FRACTIONS]
WRONGS = {
    "setting": wrong_settings(),
    "senders": wrong_senders(SENDERS),
    "levels": refused(NO_LEVELS),
    "cuts": refused(no_numbers(0, 1000)),
    "ticks": refused(no_numbers(0, 1000)),
    "within": refused(NO_STEPS),
}
RIGHTS = {"setting": SETTING, "senders": SENDERS, "levels": LEVELS}

# Settings, senders of them, and levels.
TRIED = [
    (SETTING, SENDERS, LEVELS),
    (SETTING, SENDERS, ((5, 1), (5, 1))),
    (SETTING, ((2, 1),), ((7, 3),)),
    (SETTING, ((1, 2), (3, 2)), ((-40, 1), (50, 1))),
    (SETTING, ((1, 4),) * 8, tuple((at, 3) if at % 3 else (at // 3, 1) for at in range(8))),
    (((10, 1), (3, 2), (1, 2), (1, 1)), ((1, 3), (1, 6), (1, 1)), ((0, 1), (-10, 1), (20, 1))),
    (((10, 1), (3, 2), (2, 3), (-5, 1)), ((1, 3), (1, 6), (1, 1)), ((0, 1), (-10, 1), (12, 1))),
    (moved(setting_of((9, 10), height_for((9, 10), (13, 8))), (-7, 3)), ((1, 2), (1, 3), (1, 6)), ((-9, 1),) * 3),
    (setting_of((1, 1000), (10, 3)), ((999, 1000), (1, 1000)), ((MOST, 1), (-MOST, 1))),
    (setting_of((999, 1000), (7, 2)), ((1, MOST), (MOST - 1, MOST)), ((-1, MOST), (-2, 1))),
    (setting_of((1, 2), (1, 2)), ((1, 2), (1, 2)), ((-1, 1), (1, 1))),
]


def check_levels(case, got, wanted):
    """Fails unless got is the tuple of just these numbers as FRACTIONs."""
    check(case, got, tuple(pair(one) for one in wanted))


class Refused(unittest.TestCase):
    def test_in_order(self):
        check_refusals(self, need_senders, {"setting": SETTING, "senders": SENDERS}, WRONGS)
        check_refusals(self, shares_of, {"setting": SETTING, "senders": SENDERS}, WRONGS)
        check_refusals(self, deviations, RIGHTS, WRONGS)
        check_refusals(self, levels_of, RIGHTS | {"cuts": 3}, WRONGS)
        check_refusals(self, levels_ticked, RIGHTS | {"ticks": 3}, WRONGS)
        check_refusals(self, even_from, RIGHTS | {"within": (1, 10)}, WRONGS)
        check_refusals(self, even_ticks, RIGHTS | {"within": (1, 10)}, WRONGS)

    def test_senders_of_another_step(self):
        need_senders(((10, 1), (3, 1), (1, 2), (0, 1)), ((1, 1), (2, 1)))
        wrong = ((1, 1), (2, 1))
        check_error(self, WRONGS["senders"][0][1], (), need_senders, SETTING, wrong)
        check_error(self, WRONGS["senders"][0][1], (), levels_of, SETTING, wrong, None, None)
        # A third of 2 needs as many thirds.
        need_senders(SETTING, ((2, 3),) * 3)
        check_error(self, WRONGS["senders"][0][1], (), need_senders, SETTING, ((2, 3),) * 2)

    def test_how_many_levels_hangs_on_the_senders(self):
        for many in range(1, 9):
            senders = (pair(Fraction(2, many)),) * many
            self.assertEqual(len(deviations(SETTING, senders, ((1, 1),) * many)), many)
            for other in range(10):
                if other != many:
                    levels = ((1, 1),) * other
                    check_refused(self, levels, deviations, SETTING, senders, levels)

    def test_levels_up_to_limit(self):
        deviations(SETTING, SENDERS, ((10, 1), (0, 1)))
        deviations(SETTING, SENDERS, ((MOST, 1), (10 - MOST, 1)))
        deviations(SETTING, SENDERS, ((31, 3), (-1, 3)))
        for levels in [((10, 1), (1, MOST)), ((31, 3), (-1, 4))]:
            check_refused(self, levels, deviations, SETTING, SENDERS, levels)

    def test_too_great_comes_last(self):
        part = (999, 1000)
        setting = ((10, 1), (2, 1), part, (-10, 1))
        levels = ((1000, 1), (-1000, 1))
        wrong = levels[:1]
        for function in (even_from, even_ticks):
            check_too_great(self, 1000, function, setting, SENDERS, levels, (1, 1))
            check_refused(self, (0, 1), function, setting, SENDERS, levels, (0, 1))
            check_refused(self, wrong, function, setting, SENDERS, wrong, (1, 1))

    def test_means_are_not_asked(self):
        for part, height in TOO_GREAT:
            setting = setting_of(part, height)
            halves = ((1, 2), (1, 2))
            levels = ((-5, 1), (3, 1))
            wanted = plain_senders(setting, halves, levels, 30)
            check_levels(self, levels_ticked(setting, halves, levels, 30), wanted[-1][0])
            self.assertEqual(even_from(setting, halves, levels, (9, 1)), 0)
            levels_of(setting, halves, levels, 10)
            even_ticks(setting, halves, levels, (3, 1))


class Shares(unittest.TestCase):
    def test_senders_as_they_are(self):
        for setting, senders, _ in TRIED:
            self.assertIs(need_senders(setting, senders), senders)
            self.assertIs(need_senders(senders=senders, setting=setting), senders)

    def test_examples(self):
        check(self, shares_of(SETTING, SENDERS), ((1, 2), (1, 2)))
        check(self, shares_of(SETTING, ((2, 1),)), ((1, 1),))
        check(self, shares_of(setting=SETTING, senders=((1, 3), (5, 3))), ((1, 6), (5, 6)))
        check(self, shares_of(((10, 1), (3, 2), (1, 2), (0, 1)), ((1, 2), (1, 1))), ((1, 3), (2, 3)))

    def test_together_one(self):
        for setting, senders, _ in TRIED:
            shares = shares_of(setting, senders)
            check_levels(self, shares, [number(step) / number(setting[1]) for step in senders])
            self.assertEqual(sum(map(number, shares)), 1)


class Levels(unittest.TestCase):
    def test_examples(self):
        check(self, levels_ticked(SETTING, SENDERS, LEVELS, 1), ((5, 1), (1, 2)))
        check(self, levels_of(SETTING, SENDERS, LEVELS, 1), (1, ((5, 1), (1, 2))))
        check(self, levels_of(SETTING, SENDERS, LEVELS, 0), (0, LEVELS))
        check(self, levels_ticked(ticks=0, levels=LEVELS, senders=SENDERS, setting=SETTING), LEVELS)
        check(self, levels_ticked(SETTING, SENDERS, LEVELS, 2), ((6, 1), (3, 2)))
        check(self, levels_of(cuts=2, levels=LEVELS, senders=SENDERS, setting=SETTING), (4, ((4, 1), (7, 4))))

    def test_tick_by_tick(self):
        for setting, senders, levels in TRIED:
            behind = plain_senders(setting, senders, levels, 90)
            for ticks in list(range(1, 12)) + [50, 89, 90]:
                check_levels(self, levels_ticked(setting, senders, levels, ticks), behind[ticks - 1][0])

    def test_cut_by_cut(self):
        for setting, senders, levels in TRIED:
            behind = plain_senders(setting, senders, levels, 90)
            cuts = [at for at, (_, is_cut) in enumerate(behind) if is_cut]
            self.assertGreater(len(cuts), 4)
            for many, at in enumerate(cuts, start=1):
                got = levels_of(setting, senders, levels, many)
                check(self, got[0], at + 1)
                check_levels(self, got[1], behind[at][0])

    def test_a_thousand(self):
        setting, senders, levels = TRIED[5]
        behind = plain_senders(setting, senders, levels, 1000)
        check_levels(self, levels_ticked(setting, senders, levels, 1000), behind[-1][0])
        setting, senders, levels = TRIED[-1]
        behind = plain_senders(setting, senders, levels, 1001)
        cuts = [at for at, (_, is_cut) in enumerate(behind) if is_cut]
        got = levels_of(setting, senders, levels, 1000)
        check(self, got[0], cuts[999] + 1)
        check_levels(self, got[1], behind[cuts[999]][0])

    def test_far_below(self):
        senders = ((1, MOST // 2), (MOST - 1, MOST // 2))
        levels = ((-MOST, 1), (1 - MOST, 1))
        ticks, behind = levels_of(SETTING, senders, levels, 1)
        # From 1 - 2 * MOST by 2 for each tick to 11, which is cut to 11/2.
        self.assertEqual(ticks, MOST + 5)
        share = Fraction(1, MOST)
        apart = -MOST - share * (1 - 2 * MOST)
        check_levels(self, behind, [
            share * Fraction(11, 2) + apart / 2, (1 - share) * Fraction(11, 2) - apart / 2,
        ])

    def test_their_sum_is_the_level_of_the_setting_alone(self):
        for setting, senders, levels in TRIED[:9] + TRIED[10:]:
            start = pair(sum(map(number, levels)))
            alone = levels_after(setting, start, 30)
            for ticks in (1, 2, 3, 10, 29, 30):
                behind = levels_ticked(setting, senders, levels, ticks)
                self.assertEqual(pair(sum(map(number, behind))), alone[ticks - 1])
            self.assertEqual(levels_of(setting, senders, levels, 1)[0], first_ticks(setting, start)[0])
            first, rounds = rounds_after(setting, start, 9)
            for cuts in (1, 2, 3, 10):
                self.assertEqual(levels_of(setting, senders, levels, cuts)[0], first + sum(rounds[:cuts - 1]))

    def test_one_sender_is_the_setting_alone(self):
        for start in [(0, 1), (10, 1), (-7, 3)]:
            alone = levels_after(SETTING, start, 20)
            for ticks in (1, 2, 7, 20):
                check(self, levels_ticked(SETTING, ((2, 1),), (start,), ticks), (alone[ticks - 1],))


class Deviations(unittest.TestCase):
    def plainly(self, setting, senders, levels):
        """The deviations by their words."""
        total = sum(map(number, levels))
        return [number(level) - number(step) / number(setting[1]) * total for step, level in zip(senders, levels)]

    def test_examples(self):
        check(self, deviations(SETTING, SENDERS, LEVELS), ((9, 2), (-9, 2)))
        check(self, deviations(SETTING, SENDERS, ((5, 1), (1, 2))), ((9, 4), (-9, 4)))
        check(self, deviations(setting=SETTING, senders=((2, 1),), levels=((7, 3),)), ((0, 1),))

    def test_plainly(self):
        for setting, senders, levels in TRIED:
            got = deviations(setting, senders, levels)
            check_levels(self, got, self.plainly(setting, senders, levels))
            self.assertEqual(sum(map(number, got)), 0)

    def test_only_cuts_change_them(self):
        for setting, senders, levels in TRIED[:-3]:
            first = self.plainly(setting, senders, levels)
            cuts = 0
            for at, (behind, is_cut) in enumerate(plain_senders(setting, senders, levels, 25)):
                cuts += is_cut
                now = levels_ticked(setting, senders, levels, at + 1)
                if max(max(abs(a), b) for a, b in now) <= MOST:
                    wanted = [number(setting[2]) ** cuts * one for one in first]
                    check_levels(self, deviations(setting, senders, now), wanted)

    def test_even_levels_stay_so(self):
        levels = ((1, 1), (2, 1))
        senders = ((2, 3), (4, 3))
        check(self, deviations(SETTING, senders, levels), ((0, 1), (0, 1)))
        for ticks in (1, 5, 9, 100):
            one, other = map(number, levels_ticked(SETTING, senders, levels, ticks))
            self.assertEqual(2 * one, other)


class Even(unittest.TestCase):
    def plainly(self, setting, senders, levels, within):
        """The least number of cuts and its tick, going from tick to tick."""
        shares = [number(step) / number(setting[1]) for step in senders]

        def is_even(now):
            return all(abs(one - share * sum(now)) <= number(within) for one, share in zip(now, shares))

        if is_even([number(one) for one in levels]):
            return 0, 0
        cuts = 0
        for at, (behind, is_cut) in enumerate(plain_senders(setting, senders, levels, 400)):
            cuts += is_cut
            if is_even(behind):
                return cuts, at + 1
        return None

    def test_examples(self):
        check(self, even_from(SETTING, SENDERS, LEVELS, (1, 10)), 6)
        for within, cuts in [
            ((5, 1), 0), ((9, 2), 0), ((8999, 2000), 1), ((9, 4), 1), ((2, 1), 2), ((9, 128), 6), ((9, 64), 5),
            ((MOST, 1), 0), ((9 * 2 ** 70 + 1, 2 ** 99), 28), ((9, 2 ** 99), 98), ((8, 2 ** 99 - 1), 99),
            ((9 * 2 ** 60, 2 ** 99 - 1), 38), ((9 * 2 ** 40, 2 ** 99 + 1), 59),
        ]:
            check(self, even_from(SETTING, SENDERS, LEVELS, pair(number(within))), cuts)
        check(self, even_ticks(within=(1, 10), levels=LEVELS, senders=SENDERS, setting=SETTING), 16)
        check(self, even_ticks(SETTING, SENDERS, LEVELS, (9, 4)), 1)
        check(self, even_ticks(SETTING, SENDERS, LEVELS, (9, 2)), 0)

    def test_plainly(self):
        seen = set()
        for setting, senders, levels in TRIED:
            for within in [(1, MOST), (1, 1000), (1, 9), (1, 2), (1, 1), (9, 2), (10, 1), (200, 1), (MOST, 1)]:
                wanted = self.plainly(setting, senders, levels, within)
                if wanted is not None:
                    seen.add(wanted[0])
                    check(self, even_from(setting, senders, levels, within), wanted[0])
                    check(self, even_ticks(setting, senders, levels, within), wanted[1])
        self.assertGreater(len(seen), 10)

    def test_just_at_a_deviation(self):
        for setting, senders, levels in TRIED[:7]:
            greatest = max(abs(number(one)) for one in deviations(setting, senders, levels))
            for cuts in (0, 1, 2, 5, 30):
                within = pair(greatest * number(setting[2]) ** cuts)
                if 0 < within[0] and max(within) <= MOST:
                    check(self, even_from(setting, senders, levels, within), cuts)
                    less = pair(number(within) * Fraction(999999, 1000000))
                    if max(less) <= MOST:
                        check(self, even_from(setting, senders, levels, less), cuts + 1)

    def test_the_greatest_one_of_either_sign(self):
        senders = ((2, 3),) * 3
        check(self, deviations(SETTING, senders, ((-4, 1), (2, 1), (2, 1))), ((-4, 1), (2, 1), (2, 1)))
        check(self, even_from(SETTING, senders, ((-4, 1), (2, 1), (2, 1)), (2, 1)), 1)
        check(self, even_from(SETTING, senders, ((4, 1), (-2, 1), (-2, 1)), (2, 1)), 1)
        check(self, even_from(SETTING, senders, ((-2, 1), (4, 1), (-2, 1)), (2, 1)), 1)
        check(self, even_from(SETTING, senders, ((-2, 1), (-2, 1), (4, 1)), (3, 1)), 1)

    def test_no_deviation_at_all(self):
        for within in [(1, MOST), (1, 1), (MOST, 1)]:
            check(self, even_from(SETTING, SENDERS, ((5, 1), (5, 1)), within), 0)
            check(self, even_ticks(SETTING, SENDERS, ((-5, 1), (-5, 1)), within), 0)
            check(self, even_ticks(SETTING, ((2, 1),), ((-5, 1),), within), 0)

    def test_a_thousand_cuts_and_one_more(self):
        part = (999, 1000)
        setting = ((10, 1), (2, 1), part, (-10, 1))
        # The deviation is 1: behind so many cuts 999/1000 to their power.
        levels = ((1, 1), (-1, 1))
        power = number(part) ** 1000
        near = Fraction(int(power * 10 ** 29), 10 ** 29)
        self.assertLess(near, power)
        for function in (even_from, even_ticks):
            check_too_great(self, 1000, function, setting, SENDERS, levels, pair(near))
        above = pair(near + Fraction(1, 10 ** 29))
        check(self, even_from(setting, SENDERS, levels, above), 1000)
        first, rounds = rounds_after(setting, (0, 1), 999)
        check(self, even_ticks(setting, SENDERS, levels, above), first + sum(rounds))
        # With the PART 1/2 more than 1000 cuts can't be needed.
        setting = setting_of((1, 2), (3, 1))
        levels = ((MOST, 1), (-MOST, 1))
        got = even_from(setting, ((1, MOST), (MOST - 1, MOST)), levels, (1, MOST))
        self.assertEqual(got, len(bin(MOST * MOST - 1)) - 2)

    def test_errors_of_settings_come_first(self):
        with self.assertRaises(BadSetting):
            even_from(SETTING[:3], None, None, None)
        with self.assertRaises(BadParameter):
            even_from(SETTING, SENDERS, None, None)


if __name__ == "__main__":
    unittest.main()
