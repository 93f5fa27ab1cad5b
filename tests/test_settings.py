"""Promises 1, 3, 4, 9, 10 and 11: SETTINGs, HEIGHTs, spots, what does the same."""

import unittest
from fractions import Fraction

from sawrounds.fractions import need_fraction
from sawrounds.settings import (
    alike, height_of, level_spot, moved, need_setting, scaled, setting_of, spot_level,
)
from tests.support import (
    FIRST, MOST, NO_FRACTIONS, NO_PARTS, NO_SETTINGS, NO_SPOTS, NO_STEPS, SECOND, Odd, check,
    check_bad_setting, check_refused, number, pair,
)

LIMITS = [(10, 1), (0, 1), (-7, 3), (22, 7), (-MOST, 1), (1, MOST)]
STEPS = [(1, 1), (3, 2), (1, 1000), (7, 1), (1, 10 ** 9)]
PARTS = [(1, 2), (2, 3), (1, 1000), (999, 1000), (7, 10)]
HEIGHTS_ABOVE_PART = [(0, 1), (1, 3), (9, 2), (100, 1), (1, 10 ** 6)]


def keep_at(limit, step, part, height):
    """The KEEP with which the setting of these has the height."""
    return pair((1 - number(part)) * number(limit) - number(height) * number(step))


def settings_told():
    """Settings of many kinds with their heights, also with the least ones."""
    found = []
    for limit in LIMITS:
        for step in STEPS:
            for part in PARTS:
                for more in HEIGHTS_ABOVE_PART:
                    height = pair(number(part) + number(more))
                    setting = (limit, step, part, keep_at(limit, step, part, height))
                    if max(abs(setting[3][0]), setting[3][1]) <= MOST:
                        found.append((setting, height))
    return found


TOLD = settings_told()


class Needed(unittest.TestCase):
    def test_settings_come_back(self):
        self.assertGreater(len(TOLD), 500)
        for setting, _ in TOLD:
            self.assertIs(need_setting(setting), setting)
        self.assertIs(need_setting(setting=FIRST), FIRST)

    def test_no_tuple_of_four_things(self):
        for wrong in NO_SETTINGS:
            check_bad_setting(self, (), need_setting, wrong)

    def test_things_of_wrong_kinds(self):
        for place, wrongs in enumerate([NO_FRACTIONS, NO_STEPS, NO_PARTS, NO_FRACTIONS]):
            for wrong in wrongs:
                check_bad_setting(self, (place,), need_setting, FIRST[:place] + (wrong,) + FIRST[place + 1:])

    def test_the_first_wrong_thing_is_told(self):
        for place in range(4):
            for wrong in (None, True, (2, 4), [1, 2], Odd()):
                told = FIRST[:place] + (wrong,) * (4 - place)
                check_bad_setting(self, (place,), need_setting, told)

    def test_the_whole_is_asked_ahead_of_its_things(self):
        for wrong in (None, True, (2, 4)):
            for many in (0, 1, 2, 3, 5, 6):
                check_bad_setting(self, (), need_setting, (wrong,) * many)

    def test_things_are_asked_ahead_of_the_border(self):
        # With STEP 20 the border is passed, whatever KEEP is from 0 on.
        check_bad_setting(self, (), need_setting, ((10, 1), (20, 1), (1, 2), (0, 1)))
        check_bad_setting(self, (3,), need_setting, ((10, 1), (20, 1), (1, 2), (0, 2)))
        check_bad_setting(self, (2,), need_setting, ((10, 1), (20, 1), (2, 4), (0, 1)))
        check_bad_setting(self, (2,), need_setting, ((10, 1), (20, 1), (3, 2), (0, 1)))
        check_bad_setting(self, (1,), need_setting, ((10, 1), (-20, 1), (1, 2), (9, 1)))
        check_bad_setting(self, (0,), need_setting, ((10, 0), (20, 1), (1, 2), (0, 1)))

    def test_the_border(self):
        just = ((10, 1), (10, 1), (1, 2), (0, 1))
        self.assertIs(need_setting(just), just)
        for above in [
            ((10, 1), (10, 1), (1, 2), (1, MOST)),
            ((10, 1), (11, 1), (1, 2), (0, 1)),
            ((10, 1), (10, 1), (501, 1000), (0, 1)),
            ((9, 1), (10, 1), (1, 2), (0, 1)),
            ((10, 1), (1, 1), (1, 2), (5, 1)),
            ((10, 1), (1, 1), (1, 2), (MOST, 1)),
        ]:
            check_bad_setting(self, (), need_setting, above)

    def test_the_border_everywhere(self):
        for limit in LIMITS:
            for step in STEPS:
                for part in PARTS:
                    keep = pair(number(limit) - number(part) * (number(limit) + number(step)))
                    if max(abs(keep[0]), keep[1]) > MOST:
                        continue
                    just = (limit, step, part, keep)
                    self.assertIs(need_setting(just), just)
                    check(self, height_of(just), part)
                    above = pair(number(keep) + Fraction(1, 10 ** 12))
                    if max(abs(above[0]), above[1]) <= MOST:
                        check_bad_setting(self, (), need_setting, (limit, step, part, above))

    def test_the_border_is_asked_of_great_numbers_exactly(self):
        low = ((MOST, 1), (1, 1), (1, 2), (MOST // 2 - 1, 1))
        self.assertIs(need_setting(low), low)
        just = ((MOST, 1), (2, 1), (1, 2), (MOST // 2 - 1, 1))
        self.assertIs(need_setting(just), just)
        check_bad_setting(self, (), need_setting, ((MOST, 1), (3, 1), (1, 2), (MOST // 2 - 1, 1)))
        check_bad_setting(self, (), need_setting, ((MOST, 1), (MOST, 1), (1, 2), (1, MOST)))
        fine = ((MOST, 1), (MOST, 1), (1, 2), (0, 1))
        self.assertIs(need_setting(fine), fine)

    def test_part_has_at_most_a_thousand_below(self):
        for part in [(1, 1000), (999, 1000), (1, 999), (501, 1000), (998, 999)]:
            setting = ((0, 1), (1, 1), part, (-1, 1))
            self.assertIs(need_setting(setting), setting)
        for part in [(1, 1001), (1000, 1001), (500, 1001)]:
            check_bad_setting(self, (2,), need_setting, ((0, 1), (1, 1), part, (-1, 1)))


class EverySettingIsChecked(unittest.TestCase):
    CALLS = [
        (height_of, []), (spot_level, [(1, 1)]), (level_spot, [(11, 1)]), (moved, [(1, 1)]), (scaled, [(1, 1)]),
        (alike, [FIRST]),
    ]

    def test_wrong_settings(self):
        for function, rest in self.CALLS:
            for wrong in NO_SETTINGS:
                check_bad_setting(self, (), function, wrong, *rest)
            check_bad_setting(self, (0,), function, ((2, 4),) + FIRST[1:], *rest)
            check_bad_setting(self, (1,), function, (FIRST[0], (0, 1)) + FIRST[2:], *rest)
            check_bad_setting(self, (2,), function, FIRST[:2] + ((1, 1), (0, 1)), *rest)
            check_bad_setting(self, (3,), function, FIRST[:3] + ((True, 1),), *rest)
            check_bad_setting(self, (), function, FIRST[:3] + ((5, 1),), *rest)

    def test_the_setting_is_asked_first(self):
        for function, rest in self.CALLS:
            for wrong in (None, (2, 4), Odd()):
                told = [wrong] * len(rest)
                check_bad_setting(self, (), function, None, *told)
                check_bad_setting(self, (), function, FIRST[:3] + ((5, 1),), *told)
                check_bad_setting(self, (3,), function, FIRST[:3] + ([0, 1],), *told)


class Heights(unittest.TestCase):
    def test_examples(self):
        check(self, height_of(FIRST), (5, 1))
        check(self, height_of(SECOND), (10, 3))
        check(self, height_of(setting=SECOND), (10, 3))

    def test_heights_told(self):
        for setting, height in TOLD:
            check(self, height_of(setting), height)

    def test_height_is_at_least_part(self):
        for setting, _ in TOLD:
            self.assertGreaterEqual(number(height_of(setting)), number(setting[2]))

    def test_height_may_be_greater_than_what_may_be_handed_in(self):
        check(self, height_of(((MOST, 1), (1, MOST), (1, 2), (0, 1))), (MOST * MOST // 2, 1))
        check(self, height_of(((MOST, 1), (1, MOST), (1, 2), (-MOST, 1))), (MOST * MOST * 3 // 2, 1))


class SettingsOfHeights(unittest.TestCase):
    def test_example(self):
        check(self, setting_of((1, 2), (5, 1)), ((0, 1), (1, 1), (1, 2), (-5, 1)))
        check(self, setting_of(height=(10, 3), part=(2, 3)), ((0, 1), (1, 1), (2, 3), (-10, 3)))
        check(self, setting_of((1, 2), (MOST, 1)), ((0, 1), (1, 1), (1, 2), (-MOST, 1)))

    def test_they_have_their_heights(self):
        for part in PARTS:
            for more in HEIGHTS_ABOVE_PART:
                height = pair(number(part) + number(more))
                setting = setting_of(part, height)
                self.assertIs(need_setting(setting), setting)
                check(self, height_of(setting), height)

    def test_height_from_just_part_on(self):
        for part in PARTS:
            check(self, setting_of(part, part), ((0, 1), (1, 1), part, (-part[0], part[1])))
            wrong = pair(number(part) - Fraction(1, 10 ** 20))
            check_refused(self, wrong, setting_of, part, wrong)
        for wrong in [(0, 1), (-1, 1), (499, 1000), (MOST // 2 - 1, MOST - 1), (-MOST, 1)]:
            check_refused(self, wrong, setting_of, (1, 2), wrong)

    def test_wrong_kinds(self):
        for wrong in NO_PARTS:
            check_refused(self, wrong, setting_of, wrong, (5, 1))
            check_refused(self, wrong, setting_of, height=None, part=wrong)
            check_refused(self, wrong, setting_of, wrong, (-1, 1))
        for wrong in NO_FRACTIONS:
            check_refused(self, wrong, setting_of, (1, 2), wrong)


class Spots(unittest.TestCase):
    def test_levels_of_spots(self):
        check(self, spot_level(FIRST, (1, 1)), (11, 1))
        check(self, spot_level(FIRST, (1, 2)), (21, 2))
        check(self, spot_level(SECOND, (1, 3)), (21, 2))
        check(self, spot_level(spot=(1, 1), setting=SECOND), (23, 2))
        check(self, spot_level(FIRST, (1, MOST)), (10 * MOST + 1, MOST))

    def test_spots_of_levels(self):
        check(self, level_spot(FIRST, (11, 1)), (1, 1))
        check(self, level_spot(FIRST, (21, 2)), (1, 2))
        check(self, level_spot(SECOND, (21, 2)), (1, 3))
        check(self, level_spot(level=(23, 2), setting=SECOND), (1, 1))
        check(self, level_spot(FIRST, (10 ** 29 + 1, 10 ** 28)), (1, 10 ** 28))

    def test_there_and_back(self):
        for setting, _ in TOLD[::5]:
            for spot in [(1, 1), (1, 2), (1, 3), (999, 1000), (1, 10 ** 6)]:
                level = spot_level(setting, spot)
                check(self, level, pair(number(setting[0]) + number(spot) * number(setting[1])))
                if max(abs(level[0]), level[1]) <= MOST:
                    check(self, level_spot(setting, level), spot)

    def test_results_may_be_greater_than_what_may_be_handed_in(self):
        setting = ((MOST, 1), (2, 1), (1, 2), (0, 1))
        check(self, spot_level(setting, (1, 1)), (MOST + 2, 1))
        level = (MOST + 2, 1)
        check_refused(self, level, level_spot, setting, level)

    def test_wrong_spots(self):
        for wrong in NO_SPOTS:
            check_refused(self, wrong, spot_level, FIRST, wrong)
            check_refused(self, wrong, spot_level, setting=FIRST, spot=wrong)

    def test_levels_just_at_the_ends(self):
        for wrong in [(10, 1), (9, 1), (0, 1), (-11, 1), (10 ** 29 - 1, 10 ** 28)]:
            check_refused(self, wrong, level_spot, FIRST, wrong)
        for wrong in [(12, 1), (23, 2), (11 * 10 ** 28 + 1, 10 ** 28), (MOST, 1)]:
            check_refused(self, wrong, level_spot, FIRST, wrong)
        check(self, level_spot(FIRST, (11 * 10 ** 28 - 1, 10 ** 28)), (10 ** 28 - 1, 10 ** 28))
        below_nought = ((-3, 1), (1, 2), (1, 2), (-9, 1))
        for wrong in [(-3, 1), (-4, 1), (-2, 1), (5, 2), (0, 1)]:
            check_refused(self, wrong, level_spot, below_nought, wrong)
        check(self, level_spot(below_nought, (-5, 2)), (1, 1))
        check(self, level_spot(below_nought, (-11, 4)), (1, 2))

    def test_wrong_levels(self):
        for wrong in NO_FRACTIONS:
            check_refused(self, wrong, level_spot, FIRST, wrong)


class DoTheSame(unittest.TestCase):
    BYS = [(0, 1), (10, 1), (-10, 1), (1, 3), (-22, 7), (MOST, 1), (-1, MOST)]
    FACTORS = [(1, 1), (2, 1), (1, 3), (22, 7), (MOST, 1), (1, MOST)]

    def test_examples(self):
        check(self, moved(setting_of((1, 2), (5, 1)), (10, 1)), FIRST)
        check(self, moved(FIRST, (-10, 1)), setting_of((1, 2), (5, 1)))
        check(self, scaled(FIRST, (3, 2)), ((15, 1), (3, 2), (1, 2), (0, 1)))
        check(self, moved(by=(1, 3), setting=FIRST), ((31, 3), (1, 1), (1, 2), (1, 6)))
        check(self, scaled(by=(1, 3), setting=FIRST[:3] + ((-1, 2),)), ((10, 3), (1, 3), (1, 2), (-1, 6)))

    def test_moved_by_its_rule(self):
        for setting, _ in TOLD[::7]:
            limit, step, part, keep = setting
            for by in self.BYS:
                check(self, moved(setting, by), (
                    pair(number(limit) + number(by)), step, part,
                    pair(number(keep) + number(by) - number(part) * number(by)),
                ))

    def test_scaled_by_its_rule(self):
        for setting, _ in TOLD[::7]:
            limit, step, part, keep = setting
            for by in self.FACTORS:
                check(self, scaled(setting, by), (
                    pair(number(limit) * number(by)), pair(number(step) * number(by)), part,
                    pair(number(keep) * number(by)),
                ))

    def test_the_height_stays(self):
        seen = 0
        for setting, height in TOLD:
            changed = [moved(setting, by) for by in self.BYS] + [scaled(setting, by) for by in self.FACTORS]
            for other in changed:
                if all(max(abs(above), below) <= MOST for above, below in other):
                    seen += 1
                    check(self, height_of(other), height)
                    check(self, alike(setting, other), True)
                    check(self, alike(other, setting), True)
        self.assertGreater(seen, 1000)

    def test_each_setting_is_that_of_its_height_scaled_and_moved(self):
        for setting, height in TOLD:
            made = scaled(setting_of(setting[2], height), setting[1])
            if max(abs(made[3][0]), made[3][1]) <= MOST:
                check(self, moved(made, setting[0]), setting)

    def test_results_may_be_greater_than_what_may_be_handed_in(self):
        great = moved(((MOST, 1), (1, 1), (1, 2), (0, 1)), (MOST, 1))
        check(self, great, ((2 * MOST, 1), (1, 1), (1, 2), (MOST // 2, 1)))
        check_bad_setting(self, (0,), need_setting, great)
        great = scaled(FIRST, (MOST, 1))
        check(self, great, ((10 * MOST, 1), (MOST, 1), (1, 2), (0, 1)))
        check_bad_setting(self, (0,), moved, great, (0, 1))
        small = scaled(((0, 1), (1, 2), (1, 2), (-1, 1)), (1, MOST))
        check(self, small, ((0, 1), (1, 2 * MOST), (1, 2), (-1, MOST)))
        check_bad_setting(self, (1,), scaled, small, (1, 1))

    def test_wrong_bys(self):
        for wrong in NO_FRACTIONS:
            check_refused(self, wrong, moved, FIRST, wrong)
            check_refused(self, wrong, moved, setting=FIRST, by=wrong)
        for wrong in NO_STEPS:
            check_refused(self, wrong, scaled, FIRST, wrong)
            check_refused(self, wrong, scaled, setting=FIRST, by=wrong)


class Alike(unittest.TestCase):
    def test_part_and_height(self):
        check(self, alike(FIRST, FIRST), True)
        check(self, alike(FIRST, ((0, 1), (1, 1), (1, 2), (-5, 1))), True)
        check(self, alike(setting=FIRST, other=((20, 1), (2, 1), (1, 2), (0, 1))), True)
        check(self, alike(FIRST, SECOND), False)
        check(self, alike(FIRST, FIRST[:3] + ((-1, MOST),)), False)

    def test_the_same_height_at_another_part(self):
        other = setting_of((2, 3), (5, 1))
        check(self, height_of(other), height_of(FIRST))
        check(self, alike(FIRST, other), False)
        check(self, alike(other, FIRST), False)

    def test_of_all_two(self):
        some = TOLD[::31]
        for setting, height in some:
            for other, other_height in some:
                wanted = setting[2] == other[2] and height == other_height
                check(self, alike(setting, other), wanted)

    def test_the_other_is_checked_too(self):
        for wrong in NO_SETTINGS:
            check_bad_setting(self, (), alike, FIRST, wrong)
            check_bad_setting(self, (), alike, setting_of((2, 3), (5, 1)), wrong)
        for place, wrongs in enumerate([NO_FRACTIONS, NO_STEPS, NO_PARTS, NO_FRACTIONS]):
            for wrong in wrongs:
                other = FIRST[:place] + (wrong,) + FIRST[place + 1:]
                check_bad_setting(self, (place,), alike, FIRST, other)
        check_bad_setting(self, (), alike, FIRST, FIRST[:3] + ((5, 1),))

    def test_the_first_one_is_asked_first(self):
        for place in range(4):
            wrong = FIRST[:place] + (None,) + FIRST[place + 1:]
            check_bad_setting(self, (place,), alike, wrong, None)
            check_bad_setting(self, (place,), alike, other=None, setting=wrong)


class HandedIn(unittest.TestCase):
    def test_the_same_call_gives_the_same(self):
        for setting, height in TOLD[::50]:
            check(self, need_fraction(setting[0]), setting[0])
            check(self, height_of(setting), height_of(setting))
            check(self, moved(setting, (1, 3)), moved(setting, (1, 3)))
            check(self, scaled(setting, (1, 3)), scaled(setting, (1, 3)))


if __name__ == "__main__":
    unittest.main()
