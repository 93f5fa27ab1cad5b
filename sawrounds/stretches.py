"""Stretches: the HEIGHTs that have one and the same MEAN, both ends in them."""

from math import gcd

from sawrounds.exact import power, reduced, total_of
from sawrounds.fractions import need_number
from sawrounds.rhythms import MOST_BELOW_OF_MEAN, need_mean, things_of
from sawrounds.settings import need_height, need_part


def weighed_sum(above, below, things):
    """The things K_0, .., K_(Q - 1) added up, each by its own powers.

    It is the sum of above ** (Q - 1 - J) * below ** J * K_J.
    """
    total = 0
    weight = 1
    for ticks in things:
        total = total * above + ticks * weight
        weight = weight * below
    return total


def rhythm_sum(part, mean):
    """The rhythm's things added up, each by its own powers of PART's integers.

    The floors of promise 19 differ one by one by the things told backwards,
    so that no sum without end is needed.
    """
    return weighed_sum(part[0], part[1], things_of(mean))


def powers_apart(part, number):
    """The power of PART's D, less that of its N."""
    return power(part[1], number) - power(part[0], number)


def high_of(part, mean):
    """The high end of the mean's stretch, not in lowest terms."""
    rest = part[1] - part[0]
    return (rest * rhythm_sum(part, mean), powers_apart(part, mean[1]))


def length_of(part, below):
    """The length of the stretch of each mean with this Q, not in lowest terms."""
    rest = part[1] - part[0]
    return (rest * rest * power(part[0], below - 1), part[1] * powers_apart(part, below))


def lengths_of(part, below):
    """The lengths of all stretches with this Q of means above 1 and up to 2, together."""
    many = len([above for above in range(1, below + 1) if gcd(above, below) == 1])
    length = length_of(part, below)
    return (many * length[0], length[1])


def ends_of(part, mean):
    """Both ends of the mean's stretch, not in lowest terms."""
    high = high_of(part, mean)
    length = length_of(part, mean[1])
    # The divisor of the length is PART's D times that of the high end.
    return ((part[1] * high[0] - length[0], length[1]), high)


def weighed(part, mean):
    """A mean with what tells its stretch: its rhythm's sum, the powers of PART's integers."""
    below = mean[1]
    return (mean[0], below, rhythm_sum(part, mean), power(part[0], below), power(part[1], below))


def joined(high, low):
    """The weighed mean of the rhythm of high and, behind it, that of low.

    Of neighbours this is the mediant's rhythm; so in a search none is summed
    up anew.
    """
    total = high[2] * low[3] + high[4] * low[2]
    return (high[0] + low[0], high[1] + low[1], total, high[3] * low[3], high[4] * low[4])


def order_within(part, mean, low, high):
    """Of a weighed mean's stretch: 1 if low is above it, -1 if high is below it, else 0."""
    _, _, total, power_above, power_below = mean
    rest = part[1] - part[0]
    # How far a height is above the high end, but for a factor above 0.
    if low[0] * (power_below - power_above) > low[1] * rest * total:
        return 1
    over = high[0] * (power_below - power_above) - high[1] * rest * total
    if part[0] * part[1] * over < -high[1] * rest * rest * power_above:
        return -1
    return 0


def order_of(part, mean, height):
    """-1, 0, 1 as the height is below, in or above the stretch of the mean."""
    return order_within(part, weighed(part, mean), height, height)


def need_part_and_mean(part, mean):
    """Checks a PART and a MEAN, in this order."""
    need_part(part)
    need_mean(mean)


def floor_sum(part, mean):
    """The sum of PART ** (M - 1) times floor(M * P / Q) over M = 1, 2, .."""
    need_part_and_mean(part, mean)
    rest = part[1] - part[0]
    above = part[1] * part[1] * rhythm_sum(part, mean)
    return reduced(above, rest * powers_apart(part, mean[1]))


def stretch_of(part, mean):
    """Both ends of the stretch of a MEAN."""
    return (low_end(part, mean), high_end(part, mean))


def low_end(part, mean):
    """The least HEIGHT of the stretch of a MEAN."""
    need_part_and_mean(part, mean)
    low, _ = ends_of(part, mean)
    return reduced(low[0], low[1])


def high_end(part, mean):
    """The greatest HEIGHT of the stretch of a MEAN."""
    need_part_and_mean(part, mean)
    high = high_of(part, mean)
    return reduced(high[0], high[1])


def stretch_length(part, mean):
    """The high end less the low end of the stretch of a MEAN."""
    need_part_and_mean(part, mean)
    length = length_of(part, mean[1])
    return reduced(length[0], length[1])


def is_in(part, mean, height):
    """Whether the HEIGHT is in the stretch of the MEAN, both ends in it."""
    return means_order(part, mean, height) == 0


def covered(part, most):
    """The sum of the lengths of all stretches of MEANs above 1 and up to 2, Q up to most."""
    need_part(part)
    need_number(most, 1, MOST_BELOW_OF_MEAN)
    total = total_of([lengths_of(part, below) for below in range(1, most + 1)])
    return reduced(total[0], total[1])


def means_order(part, mean, height):
    """-1, 0, 1 as the HEIGHT is below, in or above the stretch of the MEAN."""
    need_part_and_mean(part, mean)
    need_height(part, height)
    return order_of(part, mean, height)
