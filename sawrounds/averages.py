"""Levels in the long run: those at the points, and what a start is above them."""

from sawrounds.errors import TooGreat
from sawrounds.exact import difference_of, product_of, quotient_of, reduced, sum_of
from sawrounds.far import way_to_point
from sawrounds.fractions import need_fraction, need_number
from sawrounds.means import mean_found, mean_of_setting
from sawrounds.points import points_found, points_over
from sawrounds.rhythms import last_phase, things_of
from sawrounds.settings import height_of, level_cut, need_setting, need_start
from sawrounds.stretches import powers_apart, weighed_sum
from sawrounds.ticks import first_cut, need_walk, walked

MOST_LEVELS = 1000


def level_behind(setting, spot):
    """The level behind a cut with this spot, also 0."""
    limit, step, part, keep = setting
    return level_cut(part, keep, sum_of(limit, product_of(spot, step)))


def point_levels(setting):
    """The levels at the points, in order."""
    mean = mean_of_setting(setting)
    if mean[0] > MOST_LEVELS:
        raise TooGreat(MOST_LEVELS)
    levels = []
    for point, ticks in zip(points_found(setting[2], height_of(setting), mean), things_of(mean)):
        level = level_behind(setting, point)
        for _ in range(ticks):
            levels.append(level)
            level = sum_of(level, setting[1])
    return tuple(levels)


def mean_level(setting):
    """The sum of the levels at the points divided by P."""
    mean = mean_of_setting(setting)
    things = things_of(mean)
    places, divisor = points_over(setting[2], height_of(setting), mean)
    spots = reduced(sum([place * ticks for place, ticks in zip(places, things)]), divisor)
    ticks_further = sum([ticks * (ticks - 1) // 2 for ticks in things])
    # A level is the one behind a cut with the spot 0, and so many STEPs more.
    steps = quotient_of(sum_of(product_of(setting[2], spots), (ticks_further, 1)), (mean[0], 1))
    return sum_of(level_behind(setting, (0, 1)), product_of(setting[1], steps))


def level_range(setting):
    """The lowest and the highest of the levels at the points."""
    mean = mean_of_setting(setting)
    points = points_found(setting[2], height_of(setting), mean)
    # One STEP more than the highest one has the spot of the greatest point.
    rise = difference_of(points[last_phase(mean)], (1, 1))
    return (level_behind(setting, points[0]), sum_of(setting[0], product_of(rise, setting[1])))


def waste(setting):
    """LIMIT less the mean level."""
    need_setting(setting)
    return difference_of(setting[0], mean_level(setting))


def ticks_above(setting, level):
    """How many of the levels at the points are above level."""
    need_setting(setting)
    need_fraction(level)
    mean = mean_of_setting(setting)
    places, divisor = points_over(setting[2], height_of(setting), mean)
    way = quotient_of(difference_of(level, level_behind(setting, (0, 1))), setting[1])
    above, below = setting[2]
    many = 0
    for place, ticks in zip(places, things_of(mean)):
        # The first so many ticks of this round have levels up to level.
        low = (way[0] * divisor * below - above * place * way[1]) // (way[1] * divisor * below) + 1
        many = many + ticks - min(max(low, 0), ticks)
    return many


def sum_within(setting, start, ticks):
    """The sum of the levels behind the first so many ticks."""
    need_walk(setting, start, ticks)
    mean_of_setting(setting)
    total = 0
    divisor = 1
    for level, _ in walked(setting, start, ticks):
        # Each divisor is the one ahead of it or a multiple of it.
        total = total * (level[1] // divisor) + level[0]
        divisor = level[1]
    return reduced(total, divisor)


def excess(setting, start):
    """How much the levels of a start are above those at the points, all together."""
    need_start(setting, start)
    mean = mean_of_setting(setting)
    _, step, part, _ = setting
    _, phase, way = way_to_point(part, height_of(setting), mean, first_cut(setting, start)[1])
    rhythm = things_of(mean)
    things = rhythm[phase:] + rhythm[:phase]
    # Rounds further on weigh less, so that PART's integers change places.
    total = part[0] * weighed_sum(part[1], part[0], things)
    return product_of(product_of(step, way), reduced(total, powers_apart(part, mean[1])))
