"""SETTINGs (LIMIT, STEP, PART, KEEP), their HEIGHTs, and levels and spots."""

from sawrounds.errors import BadParameter, BadSetting
from sawrounds.exact import difference_of, is_less, negative_of, product_of, quotient_of, sum_of
from sawrounds.fractions import is_fraction, need_fraction

MOST_BELOW_OF_PART = 1000


def is_above_nought(value):
    """Whether value is a FRACTION above 0."""
    return is_fraction(value) and value[0] > 0


def is_part(value):
    """Whether value is a PART: a FRACTION above 0 and below 1, its D small."""
    return is_fraction(value) and 0 < value[0] < value[1] <= MOST_BELOW_OF_PART


def is_spot(value):
    """Whether value is a SPOT: a FRACTION above 0 and at most 1."""
    return is_fraction(value) and 0 < value[0] <= value[1]


def need_above_nought(value):
    """value, if it is a FRACTION above 0."""
    if not is_above_nought(value):
        raise BadParameter(value)
    return value


def need_part(part):
    """part, if it is a PART."""
    if not is_part(part):
        raise BadParameter(part)
    return part


def need_height(part, height):
    """height, if it is a FRACTION from the PART on, which was checked."""
    if not is_fraction(height) or is_less(height, part):
        raise BadParameter(height)
    return height


def level_cut(part, keep, level):
    """What the level becomes when it is cut."""
    return sum_of(product_of(part, level), keep)


def is_cut_within(setting):
    """Whether each cut leads to LIMIT at most, of four numbers of any size."""
    limit, step, part, keep = setting
    return not is_less(limit, level_cut(part, keep, sum_of(limit, step)))


def need_setting(setting):
    """setting, if it is a SETTING."""
    if type(setting) != tuple or len(setting) != 4:
        raise BadSetting(())
    limit, step, part, keep = setting
    if not is_fraction(limit):
        raise BadSetting((0,))
    if not is_above_nought(step):
        raise BadSetting((1,))
    if not is_part(part):
        raise BadSetting((2,))
    if not is_fraction(keep):
        raise BadSetting((3,))
    if not is_cut_within(setting):
        raise BadSetting(())
    return setting


def need_start(setting, start):
    """start, if it is a START of setting, which is checked ahead of it."""
    limit = need_setting(setting)[0]
    if not is_fraction(start) or is_less(limit, start):
        raise BadParameter(start)
    return start


def height_of(setting):
    """The HEIGHT of a SETTING."""
    limit, step, part, keep = need_setting(setting)
    rest = difference_of(limit, product_of(part, limit))
    return quotient_of(difference_of(rest, keep), step)


def setting_of(part, height):
    """The SETTING with LIMIT 0, STEP 1, this PART and this HEIGHT."""
    need_part(part)
    need_height(part, height)
    return ((0, 1), (1, 1), part, negative_of(height))


def spot_level(setting, spot):
    """The level just ahead of being cut that has the spot."""
    need_setting(setting)
    if not is_spot(spot):
        raise BadParameter(spot)
    return sum_of(setting[0], product_of(spot, setting[1]))


def level_spot(setting, level):
    """The spot of a level just ahead of being cut."""
    need_setting(setting)
    need_fraction(level)
    rise = difference_of(level, setting[0])
    if rise[0] <= 0 or is_less(setting[1], rise):
        raise BadParameter(level)
    return quotient_of(rise, setting[1])


def moved(setting, by):
    """The SETTING with all levels higher by a FRACTION."""
    limit, step, part, keep = need_setting(setting)
    need_fraction(by)
    more = difference_of(by, product_of(part, by))
    return (sum_of(limit, by), step, part, sum_of(keep, more))


def scaled(setting, by):
    """The SETTING with all levels multiplied by a FRACTION above 0."""
    limit, step, part, keep = need_setting(setting)
    need_above_nought(by)
    return (product_of(limit, by), product_of(step, by), part, product_of(keep, by))


def alike(setting, other):
    """Whether both SETTINGs have the same PART and the same HEIGHT."""
    need_setting(setting)
    need_setting(other)
    return setting[2] == other[2] and height_of(setting) == height_of(other)
