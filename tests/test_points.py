"""Promises 7, 27, 28 and 29: points, arcs, and the starts of a phase."""

import unittest
from fractions import Fraction

from sawrounds.means import mean_of, mean_of_setting
from sawrounds.points import arcs_of, is_arcs, is_points, phase_of, points_of, start_phase, starts_of
from sawrounds.rhythms import phases_in_order
from sawrounds.settings import height_of, moved, scaled, setting_of
from sawrounds.ticks import first_ticks
from tests.support import (
    FIRST, MOST, NO_FRACTIONS, NO_HEIGHTS, NO_INTEGERS, NO_PARTS, NO_SPOTS, NO_STARTS, SECOND, TOO_GREAT, Odd, check,
    check_refused, check_refusals, check_too_great, height_for, means_up_to, no_numbers, number, pair, plain_ends,
    plain_rhythm, plain_rounds, refused, turned, wrong_settings,
)

HALF = (1, 2)
PARTS = [(1, 2), (2, 3), (1, 10), (9, 10), (1, 1000), (999, 1000)]
WRONGS = {
    "part": refused(NO_PARTS),
    "height": refused(NO_HEIGHTS),
    "spot": refused(NO_SPOTS),
    "setting": wrong_settings(),
    "start": refused(NO_STARTS),
    "phase": refused(no_numbers(0, 299)),
    "below": refused(NO_STARTS),
    "value": [],
}
# Settings of which all is right but that their means have a Q above 300.
GREAT_SETTINGS = [setting_of(part, height) for part, height in TOO_GREAT]


def heights_tried():
    """(part, height, mean): both ends of stretches, and heights in them."""
    found = []
    for part in PARTS:
        for mean in means_up_to(5, 1, 2) + [(7, 2), (10, 3), (71, 10), (13, 8)]:
            low, high = plain_ends(part, mean)
            for height in (low, high, (low + high) / 2, low + (high - low) / 99, high - (high - low) / 10 ** 6):
                if max(pair(height)) <= MOST:
                    found.append((part, pair(height), mean))
    found.append((HALF, (MOST, 1), (MOST, 1)))
    return found


TRIED = heights_tried()
LONG = [((9, 10), height_for((9, 10), mean), mean) for mean in [(301, 300), (599, 300), (487, 300), (100, 61)]]


def plain_points(part, height, mean):
    """The points by sums of the last things, these told without an end."""
    x = number(part)
    rhythm = plain_rhythm(mean)
    found = []
    for phase in range(mean[1]):
        last = [rhythm[phase - many] for many in range(1, mean[1] + 1)]
        period = sum(x ** at * ticks for at, ticks in enumerate(last))
        found.append(period / (1 - x ** mean[1]) - number(height) / (1 - x))
    return found


class Refused(unittest.TestCase):
    def test_of_heights(self):
        for function in (points_of, arcs_of):
            check_refusals(self, function, {"part": HALF, "height": (10, 3)}, WRONGS)

    def test_judges(self):
        for function in (is_points, is_arcs):
            check_refusals(self, function, {"part": HALF, "height": (10, 3), "value": ()}, WRONGS)

    def test_phase_of(self):
        check_refusals(self, phase_of, {"part": HALF, "height": (10, 3), "spot": (1, 1)}, WRONGS)

    def test_start_phase(self):
        check_refusals(self, start_phase, {"setting": FIRST, "start": (0, 1)}, WRONGS)

    def test_starts_of(self):
        check_refusals(self, starts_of, {"setting": SECOND, "phase": 1, "below": (0, 1)}, WRONGS)

    def test_too_great(self):
        for part, height in TOO_GREAT:
            check_too_great(self, 300, points_of, part, height)
            check_too_great(self, 300, arcs_of, part, height)
            check_too_great(self, 300, phase_of, part, height, (1, 1))
            for value in (None, (), ((1, 1),), Odd()):
                check_too_great(self, 300, is_points, part, height, value)
                check_too_great(self, 300, is_arcs, part, height, value)
        for setting in GREAT_SETTINGS:
            check_too_great(self, 300, start_phase, setting, (0, 1))
            for phase in (0, 299):
                check_too_great(self, 300, starts_of, setting, phase, (-1, 1))
                check_too_great(self, 300, starts_of, setting, phase, (-MOST, 1))

    def test_refusals_are_ahead_of_too_great(self):
        for part, height in TOO_GREAT:
            for wrong in ((0, 1), (True, 1), None):
                check_refused(self, wrong, phase_of, part, height, wrong)
        for setting in GREAT_SETTINGS:
            for wrong in ((1, MOST), (True, 1), None):
                check_refused(self, wrong, start_phase, setting, wrong)
                check_refused(self, wrong, starts_of, setting, 0, wrong)
                check_refused(self, 300, starts_of, setting, 300, wrong)

    def test_a_phase_that_is_not_less_than_q(self):
        for phase in (1, 2, 299):
            check_refused(self, phase, starts_of, FIRST, phase, (0, 1))
            check_refused(self, phase, starts_of, FIRST, phase, (-MOST, 1))
        check_refused(self, 2, starts_of, SECOND, 2, (0, 1))
        for phase in (300, 301, -1):
            check_refused(self, phase, starts_of, SECOND, phase, (0, 1))
            check_refused(self, phase, starts_of, SECOND, phase, (11, 1))
        wrong = (11, 1)
        check_refused(self, wrong, starts_of, SECOND, 299, wrong)

    def test_like_what_was_let_but_not_it(self):
        check(self, starts_of(SECOND, 1, (10, 1)), ())
        check_refused(self, True, starts_of, SECOND, True, (10, 1))
        check(self, phase_of(HALF, (1, 1), (1, 1)), 0)
        wrong = (True, 1)
        check_refused(self, wrong, phase_of, HALF, (1, 1), wrong)


class Points(unittest.TestCase):
    def test_examples(self):
        check(self, points_of(HALF, (10, 3)), ((0, 1), (2, 3)))
        check(self, points_of(height=(33, 10), part=HALF), ((1, 15), (11, 15)))
        check(self, points_of(HALF, (5, 1)), ((0, 1),))

    def test_by_sums(self):
        self.assertGreater(len(TRIED), 200)
        for part, height, mean in TRIED + LONG:
            wanted = tuple(pair(point) for point in plain_points(part, height, mean))
            check(self, points_of(part, height), wanted)

    def test_each_leads_to_the_next(self):
        for part, height, mean in TRIED + LONG:
            points = [number(point) for point in points_of(part, height)]
            rhythm = plain_rhythm(mean)
            self.assertEqual(len(points), mean[1])
            for phase, point in enumerate(points):
                then = number(part) * point - number(height) + rhythm[phase]
                self.assertEqual(then, points[(phase + 1) % mean[1]])

    def test_where_they_are(self):
        for part, height, mean in TRIED:
            points = [number(point) for point in points_of(part, height)]
            is_high = number(height) == plain_ends(part, mean)[1]
            self.assertEqual(points[0] == 0, is_high)
            self.assertTrue(all(0 < point <= 1 for point in points[1:]))
            self.assertTrue(0 <= points[0] <= 1)
            is_low = number(height) == plain_ends(part, mean)[0]
            self.assertEqual(max(points) == 1, is_low)

    def test_their_order(self):
        for part, height, mean in TRIED + LONG:
            points = points_of(part, height)
            ordered = [number(points[phase]) for phase in phases_in_order(mean)]
            self.assertEqual(ordered, sorted(set(ordered)))

    def test_spots_of_the_points_stay(self):
        for part, height, mean in TRIED:
            points = points_of(part, height)
            ordered = phases_in_order(mean)
            is_high = points[0] == (0, 1)
            for phase, point in enumerate(points):
                if 0 < point[0] and max(point) <= MOST:
                    # At the high end a point is the last spot of the arc ahead of its own.
                    wanted = ordered[ordered.index(phase) - 1] if is_high else phase
                    check(self, phase_of(part, height, point), wanted)
                    rounds, _ = plain_rounds(part, height, point, 2 * mean[1])
                    self.assertEqual(rounds, turned(plain_rhythm(mean), wanted, 2 * mean[1]))


def spoiled(value):
    """Values that are like the value, a tuple of tuples, but are not it."""
    found = [
        None, True, 0, "", (), [], list(value), value + (value[0],), value[:-1], (value,), [tuple(value)], Odd(),
        tuple(map(list, value)), tuple(one + (1,) for one in value), tuple(one[:1] for one in value),
        dict(enumerate(value)), value[:-1] + (Odd(),), value[:-1] + (None,), iter(value),
    ]
    for at, one in enumerate(value):
        for place, thing in enumerate(one):
            things = wrong_things(thing)
            for other in things:
                found.append(value[:at] + (one[:place] + (other,) + one[place + 1:],) + value[at + 1:])
    return found


def wrong_things(thing):
    """What is like an integer or a pair of such but is not it."""
    if type(thing) is tuple:
        wrong = [
            (thing[0] + 1, thing[1]), list(thing), (2 * thing[0], 2 * thing[1]), (-thing[0], -thing[1]), None, Odd(),
            (thing[0], Odd()), (Fraction(thing[0]), thing[1]), thing + thing, thing[:1],
        ]
        return wrong + truths(thing)
    wrong = [thing + 1, thing - 1, -1 - thing, None, Odd(), Fraction(thing), str(thing), (thing,)]
    return wrong + ([bool(thing)] if thing in (0, 1) else [])


def truths(thing):
    """The pair with True or False for each 1 or 0 in it."""
    found = []
    for at in range(2):
        if thing[at] in (0, 1):
            found.append(thing[:at] + (bool(thing[at]),) + thing[at + 1:])
    return found


class Judged(unittest.TestCase):
    def test_points(self):
        for part, height, mean in TRIED[::6] + LONG[-1:] + [(HALF, HALF, (1, 1)), (HALF, (1, 1), (1, 1))]:
            points = points_of(part, height)
            check(self, is_points(part, height, points), True)
            check(self, is_points(part, height, tuple(tuple(point) for point in list(points))), True)
            for value in spoiled(points):
                check(self, is_points(part, height, value), False)

    def test_arcs(self):
        for part, height, mean in TRIED[::6] + LONG[-1:] + [(HALF, HALF, (1, 1)), (HALF, (1, 1), (1, 1))]:
            arcs = arcs_of(part, height)
            check(self, is_arcs(part, height, arcs), True)
            check(self, is_arcs(part, height, tuple(tuple(arc) for arc in list(arcs))), True)
            for value in spoiled(arcs):
                check(self, is_arcs(part, height, value), False)
            if mean[1] > 1:
                check(self, is_arcs(part, height, arcs[::-1]), False)

    def test_examples(self):
        check(self, is_points(HALF, (10, 3), ((0, 1), (2, 3))), True)
        check(self, is_points(HALF, (10, 3), ((False, 1), (2, 3))), False)
        check(self, is_points(value=((1, 15), (11, 15)), height=(33, 10), part=HALF), True)
        check(self, is_points(HALF, (33, 10), ((0, 1), (2, 3))), False)
        check(self, is_arcs(HALF, (5, 1), (((0, 1), (1, 1), 0),)), True)
        check(self, is_arcs(HALF, (5, 1), (((0, 1), (1, 1), False),)), False)
        check(self, is_arcs(HALF, (5, 1), (((0, 1), (True, 1), 0),)), False)
        check(self, is_arcs(value=[((0, 1), (1, 1), 0)], height=(5, 1), part=HALF), False)

    def test_values_of_any_kind(self):
        for value in NO_FRACTIONS + NO_INTEGERS + NO_PARTS:
            check(self, is_points(HALF, (10, 3), value), False)
            check(self, is_arcs(HALF, (10, 3), value), False)


class Arcs(unittest.TestCase):
    def test_examples(self):
        check(self, arcs_of(HALF, (10, 3)), (((0, 1), (2, 3), 0), ((2, 3), (1, 1), 1)))
        check(self, arcs_of(height=(33, 10), part=HALF), (((0, 1), (3, 5), 0), ((3, 5), (1, 1), 1)))
        check(self, arcs_of(HALF, (5, 1)), (((0, 1), (1, 1), 0),))

    def test_by_the_formula(self):
        for part, height, mean in TRIED:
            x = number(part)
            points = plain_points(part, height, mean)
            arcs = arcs_of(part, height)
            self.assertEqual([phase for _, _, phase in arcs], list(phases_in_order(mean)))
            for low, high, phase in arcs:
                ahead = turned(tuple(points), phase, mean[1])
                point = points[phase]
                check(self, low, pair(point - min(one / x ** at for at, one in enumerate(ahead))))
                check(self, high, pair(point + min((1 - one) / x ** at for at, one in enumerate(ahead))))

    def test_together_they_are_all_spots(self):
        for part, height, mean in TRIED + LONG:
            arcs = arcs_of(part, height)
            self.assertEqual(len(arcs), mean[1])
            check(self, arcs[0][0], (0, 1))
            check(self, arcs[-1][1], (1, 1))
            for one, other in zip(arcs, arcs[1:]):
                check(self, other[0], one[1])
            for low, high, _ in arcs:
                self.assertLess(number(low), number(high))
                check(self, (low, high), (pair(number(low)), pair(number(high))))

    def test_points_stand_in_their_arcs(self):
        for part, height, mean in TRIED + LONG:
            points = points_of(part, height)
            is_high = points[0] == (0, 1)
            for low, high, phase in arcs_of(part, height):
                self.assertTrue(number(low) <= number(points[phase]) <= number(high))
                self.assertEqual(points[phase] == low, is_high)

    def test_each_spot_begins_with_the_phase_of_its_arc(self):
        for part, height, mean in TRIED:
            many = 2 * mean[1] + 2
            rhythm = plain_rhythm(mean)
            for low, high, phase in arcs_of(part, height):
                low, high = number(low), number(high)
                for spot in (high, (low + high) / 2, low + (high - low) / 10 ** 9, high - (high - low) / 10 ** 9):
                    rounds, _ = plain_rounds(part, height, pair(spot), many)
                    self.assertEqual(rounds, turned(rhythm, phase, many))
                    if max(pair(spot)) <= MOST:
                        check(self, phase_of(part, height, pair(spot)), phase)

    def test_long_ones(self):
        for part, height, mean in LONG:
            rhythm = plain_rhythm(mean)
            for low, high, phase in arcs_of(part, height)[::29]:
                for spot in (pair(number(high)), pair((number(low) + number(high)) / 2)):
                    rounds, _ = plain_rounds(part, height, spot, 350)
                    self.assertEqual(rounds, turned(rhythm, phase, 350))

    def test_nearer_to_the_points_by_part(self):
        for part, height, mean in TRIED[::3]:
            points = plain_points(part, height, mean)
            for spot in [(1, 1), (1, 3), (1, MOST)]:
                phase = phase_of(part, height, spot)
                _, spots = plain_rounds(part, height, spot, 12)
                for at, then in enumerate(spots):
                    way = number(part) ** at * (number(spot) - points[phase])
                    self.assertEqual(then, points[(phase + at) % mean[1]] + way)


class PhaseOf(unittest.TestCase):
    def test_examples(self):
        check(self, phase_of(HALF, (10, 3), (1, 1)), 1)
        check(self, phase_of(HALF, (10, 3), (2, 3)), 0)
        check(self, phase_of(HALF, (10, 3), (2 * 10 ** 29 + 3, 3 * 10 ** 29)), 1)
        check(self, phase_of(spot=(1, MOST), height=(10, 3), part=HALF), 0)
        check(self, phase_of(HALF, (33, 10), (3, 5)), 0)
        check(self, phase_of(HALF, (33, 10), (61, 100)), 1)
        check(self, phase_of(HALF, (5, 1), (1, 1)), 0)

    def test_plainly(self):
        for part, height, mean in TRIED + LONG:
            rhythm = plain_rhythm(mean)
            many = 2 * mean[1]
            for spot in [(1, 1), (1, MOST), (1, 2), (1, 3), (89, 100), (MOST - 1, MOST)]:
                rounds, _ = plain_rounds(part, height, spot, many)
                phase = phase_of(part, height, spot)
                self.assertEqual(rounds, turned(rhythm, phase, many))
                self.assertIn(phase, range(mean[1]))


def settings_tried():
    """Settings of the heights, moved and scaled."""
    found = [FIRST, SECOND, ((MOST, 1), (1, MOST), (1, 2), (0, 1)), ((MOST, 1), (7, MOST), (1, 3), (0, 1))]
    for part, height, _ in TRIED[::7]:
        if max(height) < MOST // 1000:
            found.append(moved(scaled(setting_of(part, height), (3, 7)), (22, 7)))
    return found


SETTINGS = settings_tried()


class StartPhase(unittest.TestCase):
    def test_examples(self):
        check(self, start_phase(FIRST, (0, 1)), (11, (1, 1), 0))
        check(self, start_phase(SECOND, (0, 1)), (7, (1, 3), 0))
        check(self, start_phase(start=(10, 1), setting=SECOND), (1, (1, 1), 1))

    def test_very_far_below(self):
        check(self, start_phase(FIRST, (-MOST, 1)), (MOST + 11, (1, 1), 0))
        ticks, spot, phase = start_phase(SECOND, (-MOST, 1))
        check(self, (ticks, spot), first_ticks(SECOND, (-MOST, 1)))
        check(self, phase, phase_of(HALF, (10, 3), spot))

    def test_plainly(self):
        for setting in SETTINGS[:2] + SETTINGS[4:]:
            height = height_of(setting)
            rhythm = plain_rhythm(mean_of(setting[2], height))
            limit, step = number(setting[0]), number(setting[1])
            for lower in (0, Fraction(1, 10 ** 20), step / 3, step, step * Fraction(12, 7), 40 * step):
                start = pair(limit - lower)
                ticks, spot, phase = start_phase(setting, start)
                check(self, (ticks, spot), first_ticks(setting, start))
                rounds, _ = plain_rounds(setting[2], height, spot, 2 * len(rhythm))
                self.assertEqual(rounds, turned(rhythm, phase, 2 * len(rhythm)))
                below = pair(limit - lower - step)
                check(self, start_phase(setting, below), (ticks + 1, spot, phase))

    def test_great_heights(self):
        check(self, start_phase(SETTINGS[2], (MOST, 1)), (1, (1, 1), 0))
        rounds, _ = plain_rounds((1, 3), height_of(SETTINGS[3]), (1, 1), 40)
        ticks, spot, phase = start_phase(SETTINGS[3], (MOST, 1))
        check(self, (ticks, spot), (1, (1, 1)))
        mean = mean_of_setting(SETTINGS[3])
        self.assertEqual(rounds, turned(plain_rhythm(mean), phase, 40))


class StartsOf(unittest.TestCase):
    def test_examples(self):
        # The arcs of SECOND are the spots up to 2/3 and those above it.
        check(self, starts_of(SECOND, 1, (17, 2)), (((19, 2), (10, 1)),))
        check(self, starts_of(SECOND, 0, (17, 2)), (((17, 2), (19, 2)),))
        check(self, starts_of(SECOND, 1, (7, 1)), (((8, 1), (17, 2)), ((19, 2), (10, 1))))
        check(self, starts_of(below=(7, 1), phase=0, setting=SECOND), (((7, 1), (8, 1)), ((17, 2), (19, 2))))
        check(self, starts_of(FIRST, 0, (15, 2)), (((15, 2), (8, 1)), ((8, 1), (9, 1)), ((9, 1), (10, 1))))

    def test_where_they_begin(self):
        # Just one start more or less of the phase 1, from 8 to 17/2.
        check(self, starts_of(SECOND, 1, (8, 1)), (((8, 1), (17, 2)), ((19, 2), (10, 1))))
        check(self, starts_of(SECOND, 1, (33, 4)), (((33, 4), (17, 2)), ((19, 2), (10, 1))))
        near = (17 * 10 ** 28 - 1, 2 * 10 ** 28)
        check(self, starts_of(SECOND, 1, near), ((near, (17, 2)), ((19, 2), (10, 1))))
        check(self, starts_of(SECOND, 1, (17, 2)), (((19, 2), (10, 1)),))
        check(self, starts_of(SECOND, 1, (9, 1)), (((19, 2), (10, 1)),))
        check(self, starts_of(SECOND, 1, (10, 1)), ())
        check(self, starts_of(SECOND, 0, (19, 2)), ())
        check(self, starts_of(SECOND, 0, (10, 1)), ())
        check(self, starts_of(FIRST, 0, (10, 1)), ())

    def test_plainly(self):
        for setting in SETTINGS[:2] + SETTINGS[4:]:
            limit, step = number(setting[0]), number(setting[1])
            many = mean_of(setting[2], height_of(setting))[1]
            starts = [limit - step * Fraction(at, 13) for at in range(60)] + [limit - step * Fraction(1, 10 ** 9)]
            phases = {one: start_phase(setting, pair(one))[2] for one in starts}
            for phase in range(many):
                for below in (limit, limit - step / 5, limit - step, limit - 3 * step - step / 7):
                    pairs = starts_of(setting, phase, pair(below))
                    self.hold(setting, pairs, below)
                    for one in starts:
                        fitting = [low for low, high in pairs if number(low) < one <= number(high)]
                        self.assertEqual(len(fitting), 1 if one > below and phases[one] == phase else 0)

    def hold(self, setting, pairs, below):
        """Holds pairs against one another: a STEP apart, but the first one."""
        step = number(setting[1])
        for at, (low, high) in enumerate(pairs):
            check(self, (low, high), (pair(number(low)), pair(number(high))))
            self.assertTrue(below <= number(low) < number(high))
            if at > 0:
                self.assertEqual(number(high) - number(pairs[at - 1][1]), step)
                self.assertLessEqual(number(pairs[at - 1][1]), number(low))
            if at > 1:
                self.assertEqual(number(low) - number(pairs[at - 1][0]), step)
        if len(pairs) > 1:
            lower = number(pairs[1][0]) - step
            self.assertEqual(number(pairs[0][0]), max(below, lower))

    def test_from_pairs_to_phases(self):
        for setting in SETTINGS[4::3]:
            for phase in range(mean_of(setting[2], height_of(setting))[1]):
                below = pair(number(setting[0]) - 2 * number(setting[1]))
                for low, high in starts_of(setting, phase, below):
                    low, high = number(low), number(high)
                    for one in (high, (low + high) / 2):
                        if max(map(abs, pair(one))) <= MOST:
                            check(self, start_phase(setting, pair(one))[2], phase)

    def test_a_thousand_pairs(self):
        pairs = starts_of(FIRST, 0, (-990, 1))
        self.assertEqual(len(pairs), 1000)
        check(self, pairs[0], ((-990, 1), (-989, 1)))
        check(self, pairs[-1], ((9, 1), (10, 1)))
        check_too_great(self, 1000, starts_of, FIRST, 0, (-991, 1))
        near = (-990 * 10 ** 20 - 1, 10 ** 20)
        check_too_great(self, 1000, starts_of, FIRST, 0, near)
        check_too_great(self, 1000, starts_of, FIRST, 0, (-MOST, 1))
        # 1490 is 1000 times 3/2 less 10: the first pair of the phase 0 is from there on.
        pairs = starts_of(SECOND, 0, (-1490, 1))
        self.assertEqual(len(pairs), 1000)
        check(self, pairs[0], ((-1490, 1), (-1489, 1)))
        pairs = starts_of(SECOND, 1, (-1490, 1))
        self.assertEqual(len(pairs), 1000)
        check(self, pairs[0], ((-1489, 1), (-2977, 2)))
        near = (-1490 * 10 ** 20 - 1, 10 ** 20)
        check_too_great(self, 1000, starts_of, SECOND, 1, near)
        pairs = starts_of(SECOND, 0, near)
        self.assertEqual(len(pairs), 1000)
        check(self, pairs[0], ((-1490, 1), (-1489, 1)))

    def test_the_greatest_phases(self):
        part, height, mean = LONG[2]
        setting = setting_of(part, height)
        self.assertEqual(mean, (487, 300))
        pairs = starts_of(setting, 299, (-2, 1))
        self.assertEqual(len(pairs), 2)
        check(self, start_phase(setting, pair(simple_in(pairs[1])))[2], 299)
        check_refused(self, 300, starts_of, setting, 300, (-2, 1))


def simple_in(told):
    """A number above LOW and at most HIGH that may be handed in."""
    low, high = map(number, told)
    return Fraction(round((low + high) / 2 * 10 ** 28), 10 ** 28)


if __name__ == "__main__":
    unittest.main()
