"""LIMITs, STEPs and KEEPs for a wanted mean, and means for wanted heights."""

from sawrounds.errors import BadParameter, NoMean, TooGreat
from sawrounds.exact import difference_of, is_less, product_of, quotient_of, reduced, sum_of
from sawrounds.fractions import need_fraction, need_number
from sawrounds.means import mean_of, mean_within, search_ended
from sawrounds.rhythms import last_phase, need_mean
from sawrounds.settings import need_above_nought, need_height, need_part
from sawrounds.stretches import ends_of, stretch_of

MOST_BELOW = 60
MOST_MEANS = 2000


def times_rest(part, limit):
    """What of LIMIT is not PART of it."""
    return difference_of(limit, product_of(part, limit))


def limits_for(mean, step, part, keep):
    """The least and the greatest LIMIT with which these have the mean."""
    need_mean(mean)
    need_above_nought(step)
    need_part(part)
    need_fraction(keep)
    rest = difference_of((1, 1), part)
    low, high = [quotient_of(sum_of(product_of(height, step), keep), rest) for height in stretch_of(part, mean)]
    return (low, high)


def steps_for(mean, limit, part, keep):
    """The least and the greatest STEP with which these have the mean."""
    need_mean(mean)
    need_fraction(limit)
    need_part(part)
    need_fraction(keep)
    way = difference_of(times_rest(part, limit), keep)
    if way[0] <= 0:
        raise NoMean()
    low, high = stretch_of(part, mean)
    return (quotient_of(way, high), quotient_of(way, low))


def keeps_for(mean, limit, step, part):
    """The least and the greatest KEEP with which these have the mean."""
    need_mean(mean)
    need_fraction(limit)
    need_above_nought(step)
    need_part(part)
    rest = times_rest(part, limit)
    low, high = stretch_of(part, mean)
    return (difference_of(rest, product_of(high, step)), difference_of(rest, product_of(low, step)))


def need_heights(part, low, high):
    """Checks a PART and two HEIGHTs, the second one no less than the first one."""
    need_part(part)
    need_height(part, low)
    need_height(part, high)
    if is_less(high, low):
        raise BadParameter(high)


def simplest_between(part, low, high):
    """The MEAN with the least Q whose stretch has a HEIGHT from low to high."""
    need_heights(part, low, high)
    return mean_within(part, low, high)


def nearest_means(part, height, most):
    """The means with Q up to most next to a height's own one on both sides, or it twice."""
    left, right, found = search_ended(part, height, height, most)
    if found is not None:
        return (found[:2], found[:2])
    return (left[:2], right[:2])


def means_between(part, low, high, most):
    """All MEANs with Q up to most whose stretches have a HEIGHT from low to high."""
    need_heights(part, low, high)
    need_number(most, 1, MOST_BELOW)
    # Stretches ascend with their means: these are all from the least one whose
    # stretch does not end below low to the greatest one of the other side.
    mean = nearest_means(part, low, most)[1]
    last = nearest_means(part, high, most)[0]
    # A neighbour below a mean, whatever its own Q, leads on to the next one above.
    phase = last_phase(mean)
    ahead = ((mean[0] * phase - 1) // mean[1], phase)
    means = []
    while not is_less(last, mean):
        means.append(mean)
        if len(means) > MOST_MEANS:
            raise TooGreat(MOST_MEANS)
        times = (most + ahead[1]) // mean[1]
        ahead, mean = mean, (times * mean[0] - ahead[0], times * mean[1] - ahead[1])
    return tuple(means)


def safe_for(part, height):
    """How much less and how much greater HEIGHT may become with the same mean."""
    mean = mean_of(part, height)
    low, high = ends_of(part, mean)
    return (difference_of(height, reduced(low[0], low[1])), difference_of(reduced(high[0], high[1]), height))
