"""Promise 37: senders that join and leave."""

import unittest

from sawrounds.errors import BadSetting
from sawrounds.joining import with_sender, without_sender
from sawrounds.senders import deviations, need_senders
from sawrounds.settings import height_of, need_setting
from sawrounds.spots import counts_after
from tests.support import (
    MOST, NO_FRACTIONS, NO_STEPS, check, check_bad_setting, check_refusals, check_refused, check_too_great, no_numbers,
    number, pair, refused, wrong_senders, wrong_settings,
)
from tests.test_senders import LEVELS, NO_LEVELS, SENDERS, SETTING, TRIED

WRONGS = {
    "setting": wrong_settings(),
    "senders": wrong_senders(SENDERS),
    "levels": refused(NO_LEVELS),
    "step": refused(NO_STEPS),
    "level": refused(NO_FRACTIONS),
    "number": refused(no_numbers(0, 1)),
}
RIGHTS = {"setting": SETTING, "senders": SENDERS, "levels": LEVELS}
EIGHT = ((1, 4),) * 8


class Joining(unittest.TestCase):
    def test_refusals(self):
        check_refusals(self, with_sender, RIGHTS | {"step": (1, 2), "level": (1, 3)}, WRONGS)

    def test_an_example(self):
        wanted = (((10, 1), (5, 2), (1, 2), (0, 1)), SENDERS + ((1, 2),), LEVELS + ((1, 3),))
        check(self, with_sender(SETTING, SENDERS, LEVELS, (1, 2), (1, 3)), wanted)
        check(self, with_sender(level=(1, 3), step=(1, 2), levels=LEVELS, senders=SENDERS, setting=SETTING), wanted)
        wanted = (((10, 1), (2 * MOST + 1, MOST), (1, 2), (0, 1)), SENDERS + ((1, MOST),), LEVELS + ((-MOST, 1),))
        check(self, with_sender(SETTING, SENDERS, LEVELS, (1, MOST), (-MOST, 1)), wanted)

    def test_eight_at_most(self):
        levels = ((1, 1),) * 8
        check_too_great(self, 8, with_sender, SETTING, EIGHT, levels, (1, 2), (1, 3))
        # The refusals behind it don't come ahead of it, those ahead of it do.
        check_too_great(self, 8, with_sender, SETTING, EIGHT, levels, (MOST, 1), (MOST, 1))
        check_refused(self, (0, 1), with_sender, SETTING, EIGHT, levels, (0, 1), (1, 3))
        check_refused(self, None, with_sender, SETTING, EIGHT, levels, (1, 2), None)
        seven = ((1, 4),) * 6 + ((1, 2),)
        setting, senders, _ = with_sender(SETTING, seven, levels[1:], (1, 4), (1, 3))
        self.assertEqual(len(senders), 8)
        check(self, setting, ((10, 1), (9, 4), (1, 2), (0, 1)))

    def test_a_step_that_leads_above_limit(self):
        # Half of 10 and of the STEP is at most 10 up to the STEP 10.
        got = with_sender(SETTING, SENDERS, LEVELS, (8, 1), (0, 1))
        check(self, got[0], ((10, 1), (10, 1), (1, 2), (0, 1)))
        for step in [(8 * MOST // 10 ** 9 + 1, MOST // 10 ** 9), (9, 1), (MOST, 1)]:
            check_bad_setting(self, (), with_sender, SETTING, SENDERS, LEVELS, step, (0, 1))
            # This comes ahead of levels that are too great together.
            check_bad_setting(self, (), with_sender, SETTING, SENDERS, LEVELS, step, (10, 1))

    def test_levels_above_limit(self):
        with_sender(SETTING, SENDERS, LEVELS, (1, 1), (1, 1))
        with_sender(SETTING, SENDERS, LEVELS, (1, 1), (-1, 1))
        for level in [(MOST // 10 + 1, MOST // 10), (2, 1), (MOST, 1)]:
            check_refused(self, level, with_sender, SETTING, SENDERS, LEVELS, (1, 1), level)

    def test_a_step_that_may_not_be_handed_in(self):
        setting = ((0, 1), (MOST, 1), (1, 2), (-MOST, 1))
        got = with_sender(setting, ((MOST, 1),), ((0, 1),), (MOST, 1), (0, 1))
        check(self, got[0], ((0, 1), (2 * MOST, 1), (1, 2), (-MOST, 1)))
        check_bad_setting(self, (1,), need_setting, got[0])
        got = with_sender(setting, ((MOST, 1),), ((0, 1),), (1, MOST), (-1, 1))
        check(self, got[0][1], (MOST * MOST + 1, MOST))


class Leaving(unittest.TestCase):
    def test_refusals(self):
        check_refusals(self, without_sender, RIGHTS | {"number": 1}, WRONGS)

    def test_an_example(self):
        check(self, without_sender(SETTING, SENDERS, LEVELS, 0), (((10, 1), (1, 1), (1, 2), (0, 1)), ((1, 1),), ((0, 1),)))
        check(self, without_sender(SETTING, SENDERS, LEVELS, 1), (((10, 1), (1, 1), (1, 2), (0, 1)), ((1, 1),), ((9, 1),)))
        senders = ((1, 3), (2, 3), (1, 1))
        levels = ((1, 1), (2, 1), (3, 1))
        wanted = (((10, 1), (4, 3), (1, 2), (0, 1)), ((1, 3), (1, 1)), ((1, 1), (3, 1)))
        check(self, without_sender(number=1, levels=levels, senders=senders, setting=SETTING), wanted)

    def test_the_only_one(self):
        for wrong in (0, 1, -1, None, True, False):
            check_refused(self, wrong, without_sender, SETTING, ((2, 1),), ((0, 1),), wrong)

    def test_numbers_of_senders(self):
        levels = ((1, 1),) * 8
        for at in range(8):
            without_sender(SETTING, EIGHT, levels, at)
        for wrong in (8, -1, -8, 9):
            check_refused(self, wrong, without_sender, SETTING, EIGHT, levels, wrong)

    def test_what_is_left_may_be_above_limit(self):
        setting, senders, levels = without_sender(SETTING, SENDERS, ((-9, 1), (19, 1)), 0)
        check(self, levels, ((19, 1),))
        check(self, need_senders(setting, senders), ((1, 1),))
        check_refused(self, levels, deviations, setting, senders, levels)

    def test_rounds_are_together_no_shorter(self):
        for setting, senders, levels in TRIED:
            for at in range(len(senders)):
                if len(senders) > 1:
                    left = without_sender(setting, senders, levels, at)[0]
                    if max(height_of(left)) <= MOST:
                        self.assertLess(number(height_of(setting)), number(height_of(left)))
                        for spot in [(1, 1), (1, 3)]:
                            ahead = counts_after(setting[2], height_of(setting), spot, 40)
                            behind = counts_after(left[2], height_of(left), spot, 40)
                            self.assertTrue(all(one <= other for one, other in zip(ahead, behind)))


class JoinedAndLeft(unittest.TestCase):
    def test_joining_and_leaving_changes_nothing(self):
        seen = 0
        for setting, senders, levels in TRIED:
            for step in [(1, 7), (1, 1000), (2, 1)]:
                try:
                    three = with_sender(setting, senders, levels, step, (-1, 3))
                except BadSetting:
                    continue
                except ValueError:
                    self.assertEqual(len(senders), 8)
                    continue
                self.assertEqual(three[0][1], pair(number(setting[1]) + number(step)))
                seen += 1
                check(self, without_sender(*three, len(senders)), (setting, senders, levels))
        self.assertGreater(seen, 10)

    def test_in_any_order(self):
        one = with_sender(SETTING, SENDERS, LEVELS, (1, 2), (1, 3))
        one = without_sender(*one, 0)
        other = without_sender(SETTING, SENDERS, LEVELS, 0)
        other = with_sender(*other, (1, 2), (1, 3))
        check(self, one, other)


if __name__ == "__main__":
    unittest.main()
