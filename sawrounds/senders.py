"""SENDERs: levels that rise side by side and are cut together.

Together they are the level of the SETTING alone; what sets them apart from
their shares of it is left alone by ticks and multiplied by PART by cuts.
"""

from sawrounds.errors import BadParameter, BadSenders, TooGreat
from sawrounds.exact import (
    difference_of, fraction_power, is_less, least_power, product_of, quotient_of, reduced, sum_of, total_of,
)
from sawrounds.fractions import is_fraction, need_number
from sawrounds.settings import height_of, is_above_nought, level_cut, need_above_nought, need_setting
from sawrounds.spots import rounds_from
from sawrounds.ticks import first_cut, walked

MOST_SENDERS = 8
MOST_CUTS = 1000
MOST_TICKS = 1000


def sum_of_all(numbers):
    """The sum of the fractions of a tuple, which is not empty."""
    above, below = total_of(numbers)
    return reduced(above, below)


def need_senders(setting, senders):
    """senders, if they are SENDERs of setting, which is checked ahead of them."""
    step = need_setting(setting)[1]
    if type(senders) != tuple or not 1 <= len(senders) <= MOST_SENDERS:
        raise BadSenders(())
    for at, rise in enumerate(senders):
        if not is_above_nought(rise):
            raise BadSenders((at,))
    if sum_of_all(senders) != step:
        raise BadSenders(())
    return senders


def is_levels(limit, many, value):
    """Whether value is a tuple of so many FRACTIONs, together at most limit."""
    if type(value) != tuple or len(value) != many:
        return False
    if not all([is_fraction(level) for level in value]):
        return False
    return not is_less(limit, sum_of_all(value))


def need_levels(setting, senders, levels):
    """levels, if they are LEVELS; setting and senders are checked ahead of them."""
    need_senders(setting, senders)
    if not is_levels(setting[0], len(senders), levels):
        raise BadParameter(levels)
    return levels


def shares_found(setting, senders):
    """The shares of senders that were checked."""
    return tuple([quotient_of(step, setting[1]) for step in senders])


def apart_from(shares, levels):
    """The levels less their shares of their sum."""
    total = sum_of_all(levels)
    return [difference_of(level, product_of(share, total)) for share, level in zip(shares, levels)]


def levels_behind(setting, senders, levels, total, cuts):
    """The levels that are together total behind so many cuts of levels."""
    shares = shares_found(setting, senders)
    left = fraction_power(setting[2], cuts)
    apart = [product_of(left, way) for way in apart_from(shares, levels)]
    return tuple([sum_of(product_of(share, total), way) for share, way in zip(shares, apart)])


def cut_from(setting, start, cuts):
    """The tick of the cut of this number, the first one being 1, and its spot."""
    ticks, spot = first_cut(setting, start)
    rounds, spots = rounds_from(setting[2], height_of(setting), spot, cuts - 1)
    if cuts > 1:
        spot = reduced(spots[-1][0], spots[-1][1])
    return (ticks + sum(rounds), spot)


def shares_of(setting, senders):
    """The tuple of the shares: each step divided by STEP."""
    need_senders(setting, senders)
    return shares_found(setting, senders)


def levels_of(setting, senders, levels, cuts):
    """How many ticks there are up to the cut of this number, and the levels behind it."""
    need_levels(setting, senders, levels)
    need_number(cuts, 0, MOST_CUTS)
    if cuts == 0:
        return (0, levels)
    limit, step, part, keep = setting
    ticks, spot = cut_from(setting, sum_of_all(levels), cuts)
    total = level_cut(part, keep, sum_of(limit, product_of(spot, step)))
    return (ticks, levels_behind(setting, senders, levels, total, cuts))


def levels_ticked(setting, senders, levels, ticks):
    """The levels behind so many ticks."""
    need_levels(setting, senders, levels)
    need_number(ticks, 0, MOST_TICKS)
    if ticks == 0:
        return levels
    behind = walked(setting, sum_of_all(levels), ticks)
    cuts = len([is_cut for _, is_cut in behind if is_cut])
    above, below = behind[-1][0]
    return levels_behind(setting, senders, levels, reduced(above, below), cuts)


def deviations(setting, senders, levels):
    """The levels less their shares of their sum."""
    need_levels(setting, senders, levels)
    return tuple(apart_from(shares_found(setting, senders), levels))


def even_from(setting, senders, levels, within):
    """The least number of cuts behind which no deviation is greater than within."""
    need_levels(setting, senders, levels)
    need_above_nought(within)
    greatest = (0, 1)
    for above, below in apart_from(shares_found(setting, senders), levels):
        if is_less(greatest, (abs(above), below)):
            greatest = (abs(above), below)
    if not is_less(within, greatest):
        return 0
    wanted = quotient_of(within, greatest)
    if is_less(wanted, fraction_power(setting[2], MOST_CUTS)):
        raise TooGreat(MOST_CUTS)
    return least_power(setting[2], wanted)


def even_ticks(setting, senders, levels, within):
    """How many ticks there are up to the cut of even_from, 0 if no cut is needed."""
    cuts = even_from(setting, senders, levels, within)
    if cuts == 0:
        return 0
    return cut_from(setting, sum_of_all(levels), cuts)[0]
