"""Cuts, rounds and spots far ahead, and two starts of one SETTING."""

from sawrounds.exact import (
    difference_of, fraction_power, is_less, least_power, product_of, quotient_of, sum_of,
)
from sawrounds.fractions import MOST, need_number
from sawrounds.means import mean_found, mean_of_setting
from sawrounds.points import phase_found, points_found
from sawrounds.rhythms import ticks_up_to
from sawrounds.settings import height_of, need_above_nought, need_start
from sawrounds.spots import need_cut
from sawrounds.ticks import first_cut

MOST_ROUNDS = 1000


def cut_row(setting, start, mean):
    """The pair (BASE, PHASE) that tells the ticks of all cuts of a start.

    Its cuts fall in the ticks BASE + ticks_up_to(mean, M), M from PHASE on.
    """
    ticks, spot = first_cut(setting, start)
    phase = phase_found(setting[2], height_of(setting), mean, spot)
    return (ticks - ticks_up_to(mean, phase), phase)


def ticks_of_cut(setting, start, number):
    """The number of the tick in which the cut number falls."""
    need_start(setting, start)
    need_number(number, 0, MOST)
    mean = mean_of_setting(setting)
    base, phase = cut_row(setting, start, mean)
    return base + ticks_up_to(mean, phase + number)


def cuts_within(setting, start, ticks):
    """How many cuts fall in the first so many ticks."""
    need_start(setting, start)
    need_number(ticks, 0, MOST)
    mean = mean_of_setting(setting)
    base, phase = cut_row(setting, start, mean)
    # The greatest M of cut_row whose tick is not behind these ticks.
    last = (ticks - base) * mean[1] // mean[0]
    return max(0, last - phase + 1)


def round_at(setting, start, number):
    """How many ticks the round number has."""
    need_start(setting, start)
    need_number(number, 0, MOST)
    mean = mean_of_setting(setting)
    _, phase = cut_row(setting, start, mean)
    return ticks_up_to(mean, phase + number + 1) - ticks_up_to(mean, phase + number)


def way_to_point(part, height, mean, spot):
    """The points, the phase of a spot, and the spot less its phase's point."""
    points = points_found(part, height, mean)
    phase = phase_found(part, height, mean, spot)
    return (points, phase, difference_of(spot, points[phase]))


def spot_after(part, height, spot, rounds):
    """The spot of the cut so many rounds later."""
    need_cut(part, height, spot)
    need_number(rounds, 0, MOST_ROUNDS)
    mean = mean_found(part, height)
    points, phase, way = way_to_point(part, height, mean, spot)
    point = points[(phase + rounds) % mean[1]]
    return sum_of(point, product_of(fraction_power(part, rounds), way))


def near_after(part, height, spot, accuracy):
    """The least number of rounds behind which the spot stays so near its points."""
    need_cut(part, height, spot)
    need_above_nought(accuracy)
    mean = mean_found(part, height)
    above, below = way_to_point(part, height, mean, spot)[2]
    distance = (abs(above), below)
    if not is_less(accuracy, distance):
        return 0
    return least_power(part, quotient_of(accuracy, distance))


def need_two(setting, start, other):
    """Checks a SETTING and two STARTs of it, in this order."""
    need_start(setting, start)
    need_start(setting, other)


def together(setting, start, other):
    """The first tick from which on both are cut in the same ticks, None for none."""
    need_two(setting, start, other)
    mean = mean_of_setting(setting)
    base, phase = cut_row(setting, start, mean)
    other_base, other_phase = cut_row(setting, other, mean)
    periods, gap = divmod(other_base - base, mean[0])
    if gap != 0:
        return None
    # Both rows are one: the cut M of the other one is its cut M + moved.
    moved = periods * mean[1]
    begun = [phase, other_phase + moved]
    if begun[0] == begun[1]:
        return 1
    return base + ticks_up_to(mean, max(begun) - 1) + 1


def tick_gap(setting, start, other):
    """How far the cuts of other are behind those of start, modulo P."""
    need_two(setting, start, other)
    mean = mean_of_setting(setting)
    base, _ = cut_row(setting, start, mean)
    other_base, _ = cut_row(setting, other, mean)
    return (other_base - base) % mean[0]
