"""Spots of cuts and the rounds between them, told by PART and HEIGHT alone."""

from sawrounds.errors import BadParameter
from sawrounds.exact import product_of, reduced, sum_of
from sawrounds.fractions import need_number
from sawrounds.settings import is_spot, need_height, need_part

MOST_COUNT = 1000


def need_spot(spot):
    """spot, if it is a SPOT."""
    if not is_spot(spot):
        raise BadParameter(spot)
    return spot


def need_cut(part, height, spot):
    """Checks a PART, a HEIGHT from it on and a SPOT, in this order."""
    need_part(part)
    need_height(part, height)
    need_spot(spot)


def rounds_from(part, height, spot, count):
    """The numbers of so many rounds behind a cut, and the spots at their ends.

    The spots are not in lowest terms: the rule does without them, and to
    look for them at each step would cost more than all else.
    """
    above, below = part
    divisor = height[1] * spot[1]
    rise = height[0] * spot[1]
    place = spot[0] * height[1]
    rounds = []
    spots = []
    for _ in range(count):
        divisor = divisor * below
        rise = rise * below
        lack = rise - above * place
        # The one integer that leads from lack to above 0 and at most 1.
        ticks = lack // divisor + 1
        place = ticks * divisor - lack
        rounds.append(ticks)
        spots.append((place, divisor))
    return (rounds, spots)


def next_spot(part, height, spot):
    """The number of the round behind a cut, and the spot of the next cut."""
    need_cut(part, height, spot)
    rounds, spots = rounds_from(part, height, spot, 1)
    return (rounds[0], reduced(spots[0][0], spots[0][1]))


def spots_after(part, height, spot, count):
    """The numbers of so many rounds, and the spots of the cuts at their ends."""
    need_cut(part, height, spot)
    need_number(count, 0, MOST_COUNT)
    rounds = rounds_from(part, height, spot, count)[0]
    spots = []
    for ticks in rounds:
        spot = sum_of(product_of(part, spot), reduced(ticks * height[1] - height[0], height[1]))
        spots.append(spot)
    return (tuple(rounds), tuple(spots))


def counts_after(part, height, spot, count):
    """How many ticks lie between a cut and the one 0, 1, .. rounds later."""
    need_cut(part, height, spot)
    need_number(count, 0, MOST_COUNT)
    total = 0
    counts = [total]
    for ticks in rounds_from(part, height, spot, count)[0]:
        total = total + ticks
        counts.append(total)
    return tuple(counts)


def later(part, height, spot, other, count):
    """How many ticks more spot needs for so many rounds than other does."""
    need_cut(part, height, spot)
    need_spot(other)
    need_number(count, 0, MOST_COUNT)
    needed = sum(rounds_from(part, height, spot, count)[0])
    return needed - sum(rounds_from(part, height, other, count)[0])
