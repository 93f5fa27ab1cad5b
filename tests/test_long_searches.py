"""Promises 22, 23, 27, 28, 29: heights whose search is long come to an end soon."""

import unittest
from unittest.mock import patch

from sawrounds import means
from sawrounds.means import is_mean, mean_after, mean_of, mean_of_setting
from sawrounds.points import arcs_of, is_arcs, is_points, phase_of, points_of, start_phase, starts_of
from sawrounds.settings import setting_of
from tests.support import MOST, TOO_GREAT, Odd, check, check_too_great, height_for

# The search goes 262 steps to the same side here, one after the other.
PART = (999, 1000)
HEIGHT = (302, 301)
SETTING = ((0, 1), (1, 1), (999, 1000), (-302, 301))
SPOTS = [(1, 1), (1, 2), (1, 1000), (1, MOST), (MOST - 1, MOST), (89, 100)]


class Refused(unittest.TestCase):
    def test_of_heights(self):
        check(self, setting_of(PART, HEIGHT), SETTING)
        check_too_great(self, 300, mean_of, PART, HEIGHT)
        check_too_great(self, 300, mean_of_setting, SETTING)
        check_too_great(self, 300, points_of, PART, HEIGHT)
        check_too_great(self, 300, arcs_of, PART, HEIGHT)
        for spot in SPOTS:
            check_too_great(self, 300, phase_of, PART, HEIGHT, spot)

    def test_of_judges(self):
        for value in [None, True, (), ((1, 2),), (((0, 1), (1, 1), 0),), [], Odd()]:
            check_too_great(self, 300, is_points, PART, HEIGHT, value)
            check_too_great(self, 300, is_arcs, PART, HEIGHT, value)
        for value in [(1, 1), (2, 1), (301, 300), (302, 301), (300, 299), None]:
            check(self, is_mean(PART, HEIGHT, value), False)

    def test_of_starts(self):
        for start in [(0, 1), (-1, 2), (-1, 1), (-MOST, 1), (-1, MOST)]:
            check_too_great(self, 300, start_phase, SETTING, start)
            for phase in (0, 1, 299):
                check_too_great(self, 300, starts_of, SETTING, phase, start)

    def test_step_by_step(self):
        for steps in (0, 1, 2, 3, 100, 255, 256, 261, 262):
            check(self, mean_after(PART, HEIGHT, steps), ((1, 1), (steps + 2, steps + 1), None))
        check(self, mean_after(PART, HEIGHT, 263), ((265, 264), (264, 263), None))
        for steps in (264, 265, 299, 300, 400):
            check_too_great(self, 300, mean_after, PART, HEIGHT, steps)


class Looked(unittest.TestCase):
    def looked_at(self, part, height):
        """How many stretches the search for the mean of a height looks at."""
        with patch.object(means, "order_within", side_effect=means.order_within) as looked:
            try:
                mean_of(part, height)
            except ValueError:
                pass
        return looked.call_count

    def test_few_stretches_are_looked_at(self):
        tried = [(PART, HEIGHT)] + TOO_GREAT
        for part in [(1, 2), (9, 10), (999, 1000)]:
            for mean in [(301, 300), (599, 300), (487, 300), (377, 233), (449, 299), (3001, 300), (5, 1), (3, 2)]:
                tried.append((part, height_for(part, mean)))
        for part, height in tried:
            if max(height) <= MOST:
                self.assertLess(self.looked_at(part, height), 40)

    def test_all_means_of_a_row_of_mediants(self):
        # The mediants 1 + 1/Q and 2 - 1/Q lie 1, 2, .. 299 steps away.
        for below in range(1, 301):
            for mean in [(below + 1, below), (2 * below - 1, below)]:
                height = height_for((9, 10), mean)
                check(self, mean_of((9, 10), height), mean)
                self.assertLess(self.looked_at((9, 10), height), 40)


if __name__ == "__main__":
    unittest.main()
