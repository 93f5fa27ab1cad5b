"""ROUNDS that were seen: the means, heights and spots that have them."""

from sawrounds.errors import NoHeight
from sawrounds.exact import is_less, reduced
from sawrounds.fractions import is_integer
from sawrounds.rhythms import need_row, totals_of, unbalance
from sawrounds.settings import need_height, need_part
from sawrounds.stretches import ends_of, high_of

MOST_SEEN = 60


def need_seen(rounds):
    """rounds, if they are ROUNDS of this part."""
    return need_row(rounds, 1, MOST_SEEN)


def sums_of(totals, length):
    """The sums of all stretches of so many things, told by the totals."""
    return [totals[at + length] - totals[at] for at in range(len(totals) - length)]


def need_balanced(rounds):
    """rounds, if they are balanced."""
    paper = unbalance(rounds)
    if paper is not None:
        raise NoHeight(paper)
    return rounds


def means_found(rounds):
    """BELOW and ABOVE of rounds that are balanced."""
    totals = totals_of(rounds)
    below = (max(rounds) - 1, 1)
    above = (min(rounds) + 1, 1)
    for length in range(2, len(totals)):
        sums = sums_of(totals, length)
        one = (max(sums) - 1, length)
        other = (min(sums) + 1, length)
        if is_less(below, one):
            below = one
        if is_less(other, above):
            above = other
    return (reduced(below[0], below[1]), reduced(above[0], above[1]))


def spots_found(part, height, rounds):
    """The pair (LOW, HIGH) of the spots with these rounds, None for none.

    The spot J rounds later is PART ** J times the spot and a rest, all of
    them told over one divisor here: each of them must be above 0 and at most 1.
    """
    divisor = height[1]
    scale = 1
    rest = 0
    low = (0, 1)
    high = (1, 1)
    for ticks in rounds:
        divisor = divisor * part[0]
        scale = scale * part[1]
        rest = rest * part[0] + (ticks * height[1] - height[0]) * scale
        if is_less(low, (-rest, divisor)):
            low = (-rest, divisor)
        if is_less((scale * height[1] - rest, divisor), high):
            high = (scale * height[1] - rest, divisor)
    if not is_less(low, high):
        return None
    return (reduced(low[0], low[1]), reduced(high[0], high[1]))


def means_seen(rounds):
    """The two numbers between which a mean must lie to have these rounds."""
    need_seen(rounds)
    return means_found(need_balanced(rounds))


def heights_seen(part, rounds):
    """The two numbers between which a HEIGHT must lie to have these rounds."""
    need_part(part)
    need_seen(rounds)
    below, above = means_found(need_balanced(rounds))
    low = part
    if below[0] >= below[1]:
        low = high_of(part, below)
    high, _ = ends_of(part, above)
    return (reduced(low[0], low[1]), reduced(high[0], high[1]))


def is_seen(part, height, rounds):
    """Whether some spot has these rounds behind it at a HEIGHT."""
    return spots_seen(part, height, rounds) is not None


def spots_seen(part, height, rounds):
    """The pair (LOW, HIGH) of the spots with these rounds behind them, or None."""
    need_part(part)
    need_height(part, height)
    need_seen(rounds)
    return spots_found(part, height, rounds)


def is_seen_paper(rounds, value):
    """Whether value, of any kind, shows two stretches two or more apart."""
    need_seen(rounds)
    if type(value) != tuple or len(value) != 3:
        return False
    if not all([is_integer(thing) for thing in value]):
        return False
    first, second, length = value
    if not 0 <= first < second <= len(rounds) - length or length < 1:
        return False
    one = sum(rounds[first:first + length])
    return abs(one - sum(rounds[second:second + length])) >= 2


def next_seen(rounds):
    """The integers that may come behind rounds, ascending; () if they are not balanced."""
    need_seen(rounds)
    if unbalance(rounds) is not None:
        return ()
    totals = totals_of(rounds)
    least = 1
    greatest = min(rounds) + 1
    for length in range(1, len(totals)):
        sums = sums_of(totals, length)
        # The new thing makes such a stretch with so many things ahead of it.
        ahead = totals[-1] - totals[len(totals) - length]
        least = max(least, max(sums) - 1 - ahead)
        greatest = min(greatest, min(sums) + 1 - ahead)
    return tuple(range(least, greatest + 1))
