"""Ticks of a SETTING: levels one by one, first ticks, cuts, rounds."""

from math import lcm

from sawrounds.exact import difference_of, floor_down, is_less, quotient_of, reduced, sum_of
from sawrounds.fractions import need_number
from sawrounds.settings import height_of, level_cut, need_start
from sawrounds.spots import rounds_from

MOST_TICKS = 1000
MOST_COUNT = 1000


def need_walk(setting, start, ticks):
    """Checks a SETTING, a START of it and a number of ticks, in this order."""
    need_start(setting, start)
    need_number(ticks, 0, MOST_TICKS)


def walked(setting, start, ticks):
    """The pairs (level, whether it was cut) behind each of so many ticks.

    The levels are not in lowest terms: all numbers are kept over one divisor,
    which is greater by a factor only behind a cut.
    """
    limit, step, part, keep = setting
    above, below = part
    divisor = lcm(limit[1], step[1], keep[1], start[1])
    highest = limit[0] * (divisor // limit[1])
    rise = step[0] * (divisor // step[1])
    kept = keep[0] * (divisor // keep[1])
    level = start[0] * (divisor // start[1])
    found = []
    for _ in range(ticks):
        level = level + rise
        is_cut = level > highest
        if is_cut:
            divisor = divisor * below
            highest = highest * below
            rise = rise * below
            kept = kept * below
            level = above * level + kept
        found.append(((level, divisor), is_cut))
    return found


def first_cut(setting, start):
    """The first ticks and the first cut's spot of what was checked already."""
    way = quotient_of(difference_of(setting[0], start), setting[1])
    ticks = floor_down(way) + 1
    # way is in lowest terms, and so is what is left of it.
    return (ticks, (ticks * way[1] - way[0], way[1]))


def ticked(setting, level):
    """The level behind one tick, and whether it was cut; all was checked."""
    limit, step, part, keep = setting
    risen = sum_of(level, step)
    if is_less(limit, risen):
        return (level_cut(part, keep, risen), True)
    return (risen, False)


def tick(setting, level):
    """The level behind one tick, and whether it was cut."""
    need_start(setting, level)
    return ticked(setting, level)


def levels_after(setting, start, ticks):
    """The levels behind each of so many ticks."""
    need_walk(setting, start, ticks)
    level = start
    levels = []
    for _ in range(ticks):
        level = ticked(setting, level)[0]
        levels.append(level)
    return tuple(levels)


def first_ticks(setting, start):
    """How many ticks there are up to the first cut, and its spot."""
    need_start(setting, start)
    return first_cut(setting, start)


def rounds_after(setting, start, count):
    """The number of the first ticks and the numbers of so many rounds."""
    need_start(setting, start)
    need_number(count, 0, MOST_COUNT)
    ticks, spot = first_cut(setting, start)
    rounds = rounds_from(setting[2], height_of(setting), spot, count)[0]
    return (ticks, tuple(rounds))


def cuts_plainly(setting, start, ticks):
    """Those of so many ticks, counted from 1, that are cut."""
    need_walk(setting, start, ticks)
    behind = walked(setting, start, ticks)
    return tuple([at for at, (_, is_cut) in enumerate(behind, start=1) if is_cut])


def highest_and_lowest(setting, start, ticks):
    """The highest and the lowest level behind any of so many ticks."""
    need_walk(setting, start, ticks)
    levels = [level for level, _ in walked(setting, start, ticks)]
    if not levels:
        return (start, start)
    highest, divisor = levels[0]
    lowest = highest
    for above, below in levels:
        # Each divisor is the one ahead of it or a multiple of it.
        times = below // divisor
        divisor = below
        highest = max(highest * times, above)
        lowest = min(lowest * times, above)
    return (reduced(highest, divisor), reduced(lowest, divisor))


def highest_behind(setting, start, ticks):
    """The highest level behind any of so many ticks, the START for none."""
    return highest_and_lowest(setting, start, ticks)[0]


def lowest_behind(setting, start, ticks):
    """The lowest level behind any of so many ticks, the START for none."""
    return highest_and_lowest(setting, start, ticks)[1]
