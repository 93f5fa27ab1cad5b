"""Promises 1 to 7: what holds of every function of the program."""

import copy
import unittest

from sawrounds import (
    averages, far, fractions, joining, means, points, rhythms, seen, senders, sessions, settings, spots, stretches,
    texts, ticks, wanted, wording,
)
from sawrounds.errors import SawError
from tests.support import FIRST, SECOND, TOO_GREAT, Odd, check
from tests.test_errors import FUNCTIONS

HALF = (1, 2)
HEIGHT = (10, 3)
DOUBLE = ((10, 1), (2, 1), (1, 2), (0, 1))
BOTH = ((1, 1), (1, 1))
LEVELS = ((9, 1), (0, 1))
REPORT = (SECOND, (0, 1), (7, 2), 7, 0)

# Arguments with which each function of the interface returns something.
GIVEN = {
    fractions: {
        "fraction": (6, -4), "need_fraction": (HALF,), "plus": (HALF, (1, 3)), "minus": (HALF, (1, 3)),
        "times": (HALF, (1, 3)), "over": (HALF, (1, 3)), "less": (HALF, (1, 3)), "floor_of": (HALF,),
        "ceil_of": (HALF,), "power_of": (HALF, 3),
    },
    settings: {
        "need_setting": (FIRST,), "height_of": (FIRST,), "setting_of": (HALF, HEIGHT), "spot_level": (FIRST, HALF),
        "level_spot": (FIRST, (21, 2)), "moved": (FIRST, HALF), "scaled": (FIRST, HALF), "alike": (FIRST, SECOND),
    },
    ticks: {
        "tick": (FIRST, (10, 1)), "levels_after": (FIRST, (8, 1), 3), "first_ticks": (FIRST, (0, 1)),
        "rounds_after": (FIRST, (0, 1), 3), "cuts_plainly": (FIRST, (0, 1), 20), "highest_behind": (FIRST, (0, 1), 20),
        "lowest_behind": (FIRST, (0, 1), 20),
    },
    spots: {
        "need_spot": (HALF,), "next_spot": (HALF, HEIGHT, HALF), "spots_after": (HALF, HEIGHT, HALF, 3),
        "counts_after": (HALF, HEIGHT, HALF, 3), "later": (HALF, HEIGHT, HALF, (1, 1), 3),
    },
    stretches: {
        "floor_sum": (HALF, (7, 2)), "stretch_of": (HALF, (7, 2)), "low_end": (HALF, (7, 2)), "high_end": (HALF, (7, 2)),
        "stretch_length": (HALF, (7, 2)), "is_in": (HALF, (7, 2), HEIGHT), "covered": (HALF, 3),
        "means_order": (HALF, (7, 2), HEIGHT),
    },
    rhythms: {
        "need_mean": ((7, 2),), "need_rounds": ((3, 4),), "rhythm_of": ((7, 2),), "sum_from": ((7, 2), 1, 3),
        "phases_in_order": ((7, 2),), "unbalance": ((3, 4, 4, 3, 3),), "is_balanced": ((3, 4),), "told_rhythm": ((3, 4),),
        "windows_of": ((7, 2), 3), "backwards_phase": ((7, 2),), "parents_of": ((7, 2),),
    },
    means: {
        "mean_of": (HALF, HEIGHT), "mean_of_setting": (SECOND,), "is_mean": (HALF, HEIGHT, (7, 2)),
        "mean_after": (HALF, HEIGHT, 1),
    },
    points: {
        "points_of": (HALF, HEIGHT), "is_points": (HALF, HEIGHT, ((0, 1), (2, 3))), "arcs_of": (HALF, HEIGHT),
        "is_arcs": (HALF, HEIGHT, ()), "phase_of": (HALF, HEIGHT, HALF), "start_phase": (SECOND, (0, 1)),
        "starts_of": (SECOND, 1, (0, 1)),
    },
    far: {
        "ticks_of_cut": (SECOND, (0, 1), 7), "cuts_within": (SECOND, (0, 1), 70), "round_at": (SECOND, (0, 1), 7),
        "spot_after": (HALF, HEIGHT, HALF, 3), "near_after": (HALF, HEIGHT, HALF, (1, 1000)),
        "together": (SECOND, (0, 1), (1, 1)), "tick_gap": (SECOND, (0, 1), (1, 1)),
    },
    senders: {
        "need_senders": (DOUBLE, BOTH), "shares_of": (DOUBLE, BOTH), "levels_of": (DOUBLE, BOTH, LEVELS, 3),
        "levels_ticked": (DOUBLE, BOTH, LEVELS, 3), "deviations": (DOUBLE, BOTH, LEVELS),
        "even_from": (DOUBLE, BOTH, LEVELS, (1, 10)), "even_ticks": (DOUBLE, BOTH, LEVELS, (1, 10)),
    },
    joining: {
        "with_sender": (DOUBLE, BOTH, LEVELS, HALF, (1, 3)), "without_sender": (DOUBLE, BOTH, LEVELS, 1),
    },
    averages: {
        "point_levels": (FIRST,), "mean_level": (FIRST,), "level_range": (FIRST,), "waste": (FIRST,),
        "ticks_above": (FIRST, (7, 1)), "sum_within": (FIRST, (0, 1), 20), "excess": (FIRST, (0, 1)),
    },
    seen: {
        "need_seen": ((3, 4),), "means_seen": ((3, 4),), "heights_seen": (HALF, (3, 4)), "is_seen": (HALF, HEIGHT, (3, 4)),
        "spots_seen": (HALF, HEIGHT, (3, 4)), "is_seen_paper": ((3, 5), (0, 1, 1)), "next_seen": ((3, 4),),
    },
    wanted: {
        "limits_for": ((5, 1), (1, 1), HALF, (0, 1)), "steps_for": ((5, 1), (10, 1), HALF, (0, 1)),
        "keeps_for": ((5, 1), (10, 1), (1, 1), HALF), "simplest_between": (HALF, (31, 10), (33, 10)),
        "means_between": (HALF, (31, 10), (33, 10), 5), "safe_for": (HALF, HEIGHT),
    },
    wording: {},
    texts: {
        "report_of": (SECOND, (0, 1)), "need_report": (REPORT,), "setting_text": (SECOND,),
        "read_setting": ("setting 10 3/2 1/2 0",), "rounds_text": ((3, 4),), "read_rounds": ("rounds ( 3 4 )",),
        "report_text": (REPORT,), "read_report": ("report 10 3/2 1/2 0\n0 7/2 7 0",),
    },
    sessions: {
        "begun": (FIRST, (0, 1)), "need_state": ((FIRST, (0, 1), ((SECOND, (0, 1)),)),),
        "session_step": ((FIRST, (0, 1), ()), ("step", (3, 2))), "played": (FIRST, (0, 1), (("mean",), ("keep", (1, 1)))),
    },
}
# What is asked for as any value, so that no value of it is refused.
JUDGED = {"is_mean", "is_points", "is_arcs", "is_seen_paper"}


def kinds_of(value):
    """All kinds of things in a value."""
    if type(value) is tuple:
        return {tuple}.union(*map(kinds_of, value))
    return {type(value)}


def module_of(function):
    """The module of the interface that lists a function."""
    return [module for module in GIVEN if function.__module__ == module.__name__][0]


def functions():
    """(function, the names of its parameters, arguments): all of the interface."""
    for module, rows in FUNCTIONS.items():
        for name, parameters in rows.items():
            yield getattr(module, name), parameters, GIVEN[module][name]


class Whole(unittest.TestCase):
    def test_all_are_tried(self):
        self.assertEqual({module: set(rows) for module, rows in GIVEN.items()},
                         {module: set(rows) for module, rows in FUNCTIONS.items()})
        self.assertEqual(sum(map(len, FUNCTIONS.values())), 108)

    def test_by_position_and_by_name_and_once_more(self):
        for function, names, given in functions():
            with self.subTest(name=function.__name__):
                got = function(*given)
                check(self, function(**dict(zip(names, given))), got)
                check(self, function(**dict(reversed(list(zip(names, given))))), got)
                check(self, function(*copy.deepcopy(given)), got)

    def test_results_are_made_of_few_kinds(self):
        for function, _, given in functions():
            with self.subTest(name=function.__name__):
                let = {tuple, int, bool, type(None)}
                if function.__name__ in ("setting_text", "rounds_text", "report_text"):
                    let = {str}
                self.assertLessEqual(kinds_of(function(*given)), let)

    def test_each_parameter_is_checked(self):
        for function, names, given in functions():
            for at, name in enumerate(names):
                if name == "value" and function.__name__ in JUDGED:
                    continue
                for wrong in (None, Odd(), 1.5, object(), [given[at]], (), {1: 2}, float("nan"), b"", (Odd(),), ((),)):
                    if type(wrong) is tuple and not wrong and name in ("rounds", "deeds") and module_of(function) != seen:
                        continue
                    with self.subTest(name=function.__name__, parameter=name):
                        with self.assertRaises(SawError):
                            function(*given[:at], wrong, *given[at + 1:])
                        # Whatever stands behind it, the first wrong one is told.
                        with self.assertRaises(SawError) as held:
                            function(*given[:at], wrong, *[None] * (len(given) - at - 1))
                        with self.assertRaises(SawError) as other:
                            function(*given[:at], wrong, *[Odd()] * (len(given) - at - 1))
                        self.assertIs(type(held.exception), type(other.exception))

    def test_judges_take_any_value(self):
        values = [None, True, 0, 1, "", "ab", b"", 1.5, (), ((),), [], {}, Odd(), (Odd(),), (Odd(), Odd()), (0, 1, Odd()), object()]
        for function, names, given in functions():
            if function.__name__ in JUDGED:
                self.assertEqual(names[-1], "value")
                for value in values:
                    check(self, function(*given[:-1], value), False)
        for part, height in TOO_GREAT:
            for value in values:
                check(self, means.is_mean(part, height, value), False)


if __name__ == "__main__":
    unittest.main()
