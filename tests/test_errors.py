"""Promise 1: the errors, the names and the files of the interface."""

import inspect
import unittest

from sawrounds import (
    averages, errors, far, fractions, joining, means, points, rhythms, seen, senders, sessions, settings, spots,
    stretches, texts, ticks, wanted, wording,
)
from tests.support import Odd

ATTRIBUTES = {
    "BadSetting": ["place"],
    "BadRounds": ["place"],
    "BadSenders": ["place"],
    "BadText": ["line", "word"],
    "BadDeed": ["place"],
    "BadParameter": ["value"],
    "NoHeight": ["paper"],
    "NoRow": [],
    "NoMean": [],
    "TooGreat": ["most"],
}

FUNCTIONS = {
    fractions: {
        "fraction": ["above", "below"],
        "need_fraction": ["value"],
        "plus": ["one", "other"],
        "minus": ["one", "other"],
        "times": ["one", "other"],
        "over": ["one", "other"],
        "less": ["one", "other"],
        "floor_of": ["one"],
        "ceil_of": ["one"],
        "power_of": ["one", "number"],
    },
    settings: {
        "need_setting": ["setting"],
        "height_of": ["setting"],
        "setting_of": ["part", "height"],
        "spot_level": ["setting", "spot"],
        "level_spot": ["setting", "level"],
        "moved": ["setting", "by"],
        "scaled": ["setting", "by"],
        "alike": ["setting", "other"],
    },
    ticks: {
        "tick": ["setting", "level"],
        "levels_after": ["setting", "start", "ticks"],
        "first_ticks": ["setting", "start"],
        "rounds_after": ["setting", "start", "count"],
        "cuts_plainly": ["setting", "start", "ticks"],
        "highest_behind": ["setting", "start", "ticks"],
        "lowest_behind": ["setting", "start", "ticks"],
    },
    spots: {
        "need_spot": ["spot"],
        "next_spot": ["part", "height", "spot"],
        "spots_after": ["part", "height", "spot", "count"],
        "counts_after": ["part", "height", "spot", "count"],
        "later": ["part", "height", "spot", "other", "count"],
    },
    stretches: {
        "floor_sum": ["part", "mean"],
        "stretch_of": ["part", "mean"],
        "low_end": ["part", "mean"],
        "high_end": ["part", "mean"],
        "stretch_length": ["part", "mean"],
        "is_in": ["part", "mean", "height"],
        "covered": ["part", "most"],
        "means_order": ["part", "mean", "height"],
    },
    rhythms: {
        "need_mean": ["mean"],
        "need_rounds": ["rounds"],
        "rhythm_of": ["mean"],
        "sum_from": ["mean", "phase", "count"],
        "phases_in_order": ["mean"],
        "unbalance": ["rounds"],
        "is_balanced": ["rounds"],
        "told_rhythm": ["rounds"],
        "windows_of": ["mean", "length"],
        "backwards_phase": ["mean"],
        "parents_of": ["mean"],
    },
    means: {
        "mean_of": ["part", "height"],
        "mean_of_setting": ["setting"],
        "is_mean": ["part", "height", "value"],
        "mean_after": ["part", "height", "steps"],
    },
    points: {
        "points_of": ["part", "height"],
        "is_points": ["part", "height", "value"],
        "arcs_of": ["part", "height"],
        "is_arcs": ["part", "height", "value"],
        "phase_of": ["part", "height", "spot"],
        "start_phase": ["setting", "start"],
        "starts_of": ["setting", "phase", "below"],
    },
    far: {
        "ticks_of_cut": ["setting", "start", "number"],
        "cuts_within": ["setting", "start", "ticks"],
        "round_at": ["setting", "start", "number"],
        "spot_after": ["part", "height", "spot", "rounds"],
        "near_after": ["part", "height", "spot", "accuracy"],
        "together": ["setting", "start", "other"],
        "tick_gap": ["setting", "start", "other"],
    },
    senders: {
        "need_senders": ["setting", "senders"],
        "shares_of": ["setting", "senders"],
        "levels_of": ["setting", "senders", "levels", "cuts"],
        "levels_ticked": ["setting", "senders", "levels", "ticks"],
        "deviations": ["setting", "senders", "levels"],
        "even_from": ["setting", "senders", "levels", "within"],
        "even_ticks": ["setting", "senders", "levels", "within"],
    },
    joining: {
        "with_sender": ["setting", "senders", "levels", "step", "level"],
        "without_sender": ["setting", "senders", "levels", "number"],
    },
    averages: {
        "point_levels": ["setting"],
        "mean_level": ["setting"],
        "level_range": ["setting"],
        "waste": ["setting"],
        "ticks_above": ["setting", "level"],
        "sum_within": ["setting", "start", "ticks"],
        "excess": ["setting", "start"],
    },
    seen: {
        "need_seen": ["rounds"],
        "means_seen": ["rounds"],
        "heights_seen": ["part", "rounds"],
        "is_seen": ["part", "height", "rounds"],
        "spots_seen": ["part", "height", "rounds"],
        "is_seen_paper": ["rounds", "value"],
        "next_seen": ["rounds"],
    },
    wanted: {
        "limits_for": ["mean", "step", "part", "keep"],
        "steps_for": ["mean", "limit", "part", "keep"],
        "keeps_for": ["mean", "limit", "step", "part"],
        "simplest_between": ["part", "low", "high"],
        "means_between": ["part", "low", "high", "most"],
        "safe_for": ["part", "height"],
    },
    wording: {},
    texts: {
        "report_of": ["setting", "start"],
        "need_report": ["report"],
        "setting_text": ["setting"],
        "read_setting": ["text"],
        "rounds_text": ["rounds"],
        "read_rounds": ["text"],
        "report_text": ["report"],
        "read_report": ["text"],
    },
    sessions: {
        "begun": ["setting", "start"],
        "need_state": ["state"],
        "session_step": ["state", "deed"],
        "played": ["setting", "start", "deeds"],
    },
}


class Errors(unittest.TestCase):
    def test_saw_error_is_beneath_value_error(self):
        self.assertEqual(errors.SawError.__bases__, (ValueError,))
        self.assertEqual(errors.SawError.__module__, "sawrounds.errors")

    def test_each_error_is_directly_beneath_saw_error(self):
        for name in ATTRIBUTES:
            with self.subTest(name=name):
                kind = getattr(errors, name)
                self.assertEqual(kind.__bases__, (errors.SawError,))
                self.assertEqual(kind.__module__, "sawrounds.errors")
                self.assertEqual(kind.__name__, name)

    def test_arguments_are_attributes_by_position(self):
        for name, attributes in ATTRIBUTES.items():
            for told in [(), 7, None, (0, 1), 10 ** 5000, Odd()]:
                with self.subTest(name=name):
                    given = [(told, attribute) for attribute in attributes]
                    error = getattr(errors, name)(*given)
                    for thing, attribute in zip(given, attributes):
                        self.assertIs(getattr(error, attribute), thing)

    def test_arguments_are_attributes_by_name(self):
        for name, attributes in ATTRIBUTES.items():
            with self.subTest(name=name):
                given = {attribute: [attribute] for attribute in attributes}
                error = getattr(errors, name)(**given)
                for attribute in attributes:
                    self.assertIs(getattr(error, attribute), given[attribute])

    def test_arguments_are_as_many_as_told(self):
        for name, attributes in ATTRIBUTES.items():
            with self.subTest(name=name):
                with self.assertRaises(TypeError):
                    getattr(errors, name)(*attributes, 1)
                if attributes:
                    with self.assertRaises(TypeError):
                        getattr(errors, name)(*attributes[1:])

    def test_errors_are_caught_by_their_common_names(self):
        for kind in (errors.SawError, ValueError):
            with self.assertRaises(kind):
                raise errors.TooGreat(300)
            with self.assertRaises(kind):
                raise errors.NoRow()

    def test_an_error_of_anything_can_be_written(self):
        for told in [10 ** 5000, Odd()]:
            self.assertIsInstance(str(errors.BadParameter(told)), str)
            self.assertIsInstance(repr(errors.BadParameter(told)), str)


class Interface(unittest.TestCase):
    def test_functions_stand_in_their_files_with_their_parameters(self):
        for module, functions in FUNCTIONS.items():
            for name, parameters in functions.items():
                with self.subTest(name=name):
                    function = getattr(module, name)
                    self.assertTrue(inspect.isfunction(function))
                    self.assertEqual(function.__module__, module.__name__)
                    told = inspect.signature(function).parameters.values()
                    self.assertEqual([one.name for one in told], parameters)
                    for one in told:
                        self.assertEqual(one.kind, one.POSITIONAL_OR_KEYWORD)
                        self.assertIs(one.default, one.empty)


if __name__ == "__main__":
    unittest.main()
