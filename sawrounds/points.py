"""Points to which spots come, arcs of spots that begin alike, and starts."""

from math import gcd

from sawrounds.errors import BadParameter, TooGreat
from sawrounds.exact import ceil_up, difference_of, is_less, product_of, quotient_of, sum_of
from sawrounds.fractions import is_same, need_number
from sawrounds.means import mean_found, mean_of, mean_of_setting
from sawrounds.rhythms import MOST_BELOW_OF_MEAN, last_phase, ordered_phases, things_of
from sawrounds.settings import height_of, need_setting, need_start
from sawrounds.spots import need_cut, rounds_from
from sawrounds.stretches import powers_apart, rhythm_sum
from sawrounds.ticks import first_cut

MOST_PAIRS = 1000


def points_over(part, height, mean):
    """The points by phases as integers over one divisor, and this divisor.

    What is common to the first point and the divisor is taken out: as PART's
    two integers have nothing in common with the rest of the divisor, only
    HEIGHT's D can then still have divisors in common with a point.
    """
    above, below = part
    apart = powers_apart(part, mean[1])
    # The high end of the stretch is where the point of the phase 0 is 0.
    place = height[1] * rhythm_sum(part, mean) - height[0] * (apart // (below - above))
    common = gcd(place, apart)
    place = place // common
    apart = apart // common
    places = []
    for ticks in things_of(mean):
        places.append(below * place)
        place = (above * place + (ticks * height[1] - height[0]) * apart) // below
    return (places, height[1] * apart)


def points_found(part, height, mean):
    """The points by phases; all was checked, and the mean is the height's."""
    places, divisor = points_over(part, height, mean)
    points = []
    for place in places:
        common = gcd(place, height[1])
        points.append((place // common, divisor // common))
    return tuple(points)


def arcs_found(part, height, mean):
    """The arcs, ascending; all was checked, and the mean is the height's.

    The last arc ends at 1. The HIGH of each other phase is led by its round
    to the HIGH of the next phase, so that all are told from 1 backwards.
    """
    rhythm = things_of(mean)
    ahead = last_phase(mean)
    high = (1, 1)
    highs = {ahead: high}
    while len(highs) < len(rhythm):
        ahead = (ahead - 1) % len(rhythm)
        rest = difference_of(height, (rhythm[ahead], 1))
        high = quotient_of(sum_of(high, rest), part)
        highs[ahead] = high
    arcs = []
    low = (0, 1)
    for phase in ordered_phases(mean):
        arcs.append((low, highs[phase], phase))
        low = highs[phase]
    return tuple(arcs)


def phase_found(part, height, mean, spot):
    """The phase with which a spot begins; all was checked.

    It is told by its place in order, which is -P times the phase modulo Q:
    the first M rounds from it on are together ceil((M * P - place) / Q). So
    M * P less Q times these rounds is nowhere above the place, and for one M
    below Q it is the place.
    """
    place = 0
    ticks = 0
    for number, more in enumerate(rounds_from(part, height, spot, mean[1] - 1)[0], start=1):
        ticks = ticks + more
        place = max(place, number * mean[0] - ticks * mean[1])
    return -place * last_phase(mean) % mean[1]


def points_of(part, height):
    """The points of a HEIGHT, by phases."""
    mean = mean_of(part, height)
    return points_found(part, height, mean)


def is_points(part, height, value):
    """Whether value, of any kind, is what points_of returns."""
    return is_same(value, points_of(part, height))


def arcs_of(part, height):
    """The triples (LOW, HIGH, PHASE): the spots that begin with each phase."""
    mean = mean_of(part, height)
    return arcs_found(part, height, mean)


def is_arcs(part, height, value):
    """Whether value, of any kind, is what arcs_of returns."""
    return is_same(value, arcs_of(part, height))


def phase_of(part, height, spot):
    """The PHASE with which a spot begins."""
    need_cut(part, height, spot)
    mean = mean_found(part, height)
    return phase_found(part, height, mean, spot)


def start_phase(setting, start):
    """The number of the first ticks, the first cut's spot and its PHASE."""
    need_start(setting, start)
    mean = mean_of_setting(setting)
    ticks, spot = first_cut(setting, start)
    return (ticks, spot, phase_found(setting[2], height_of(setting), mean, spot))


def start_at(setting, ticks, spot):
    """The start with so many first ticks and this spot of the first cut, also 0."""
    rise = difference_of((ticks, 1), spot)
    return difference_of(setting[0], product_of(setting[1], rise))


def starts_of(setting, phase, below):
    """The pairs (LOW, HIGH) of the starts above below that begin with the phase."""
    need_setting(setting)
    need_number(phase, 0, MOST_BELOW_OF_MEAN - 1)
    need_start(setting, below)
    mean = mean_of_setting(setting)
    if phase >= mean[1]:
        raise BadParameter(phase)
    arcs = arcs_found(setting[2], height_of(setting), mean)
    low, high, _ = arcs[ordered_phases(mean).index(phase)]
    # So many first ticks at most has a pair that does not lie below whole.
    way = quotient_of(difference_of(setting[0], below), setting[1])
    many = ceil_up(sum_of(way, high)) - 1
    if many > MOST_PAIRS:
        raise TooGreat(MOST_PAIRS)
    pairs = []
    for ticks in range(many, 0, -1):
        least = start_at(setting, ticks, low)
        if is_less(least, below):
            least = below
        pairs.append((least, start_at(setting, ticks, high)))
    return tuple(pairs)
