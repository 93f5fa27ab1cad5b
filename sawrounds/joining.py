"""SENDERs that join and leave."""

from sawrounds.errors import BadParameter, BadSetting, TooGreat
from sawrounds.exact import difference_of, is_less, sum_of
from sawrounds.fractions import need_fraction, need_number
from sawrounds.senders import MOST_SENDERS, need_levels, sum_of_all
from sawrounds.settings import is_cut_within, need_above_nought


def with_sender(setting, senders, levels, step, level):
    """The SETTING, the SENDERS and the LEVELS with one sender more, the last one."""
    need_levels(setting, senders, levels)
    need_above_nought(step)
    need_fraction(level)
    if len(senders) == MOST_SENDERS:
        raise TooGreat(MOST_SENDERS)
    limit, rise, part, keep = setting
    joined = (limit, sum_of(rise, step), part, keep)
    if not is_cut_within(joined):
        raise BadSetting(())
    if is_less(limit, sum_of_all((*levels, level))):
        raise BadParameter(level)
    return (joined, (*senders, step), (*levels, level))


def without_sender(setting, senders, levels, number):
    """The SETTING, the SENDERS and the LEVELS without the sender of this number."""
    need_levels(setting, senders, levels)
    need_number(number, 0, len(senders) - 1)
    if len(senders) == 1:
        raise BadParameter(number)
    limit, rise, part, keep = setting
    left = (limit, difference_of(rise, senders[number]), part, keep)
    behind = number + 1
    return (left, senders[:number] + senders[behind:], levels[:number] + levels[behind:])
