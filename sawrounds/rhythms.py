"""MEANs, their RHYTHMs, and ROUNDS that are balanced or a rhythm.

The functions that check nothing are for MEANs of any size, as they come out
of great HEIGHTs.
"""

from sawrounds.errors import BadParameter, BadRounds
from sawrounds.exact import reduced
from sawrounds.fractions import MOST, is_fraction, is_integer, need_number

MOST_BELOW_OF_MEAN = 300
MOST_ROUNDS = 300
MOST_LENGTH = 60


def is_any_mean(value):
    """Whether value is a MEAN that may be handed in."""
    return is_fraction(value) and value[1] <= value[0] and value[1] <= MOST_BELOW_OF_MEAN


def need_mean(mean):
    """mean, if it is a MEAN."""
    if not is_any_mean(mean):
        raise BadParameter(mean)
    return mean


def need_row(rounds, least, most):
    """rounds, if they are a tuple of least to most integers from 1 to 10 ** 30."""
    if type(rounds) != tuple or not least <= len(rounds) <= most:
        raise BadRounds(())
    for at, ticks in enumerate(rounds):
        if not is_integer(ticks) or not 1 <= ticks <= MOST:
            raise BadRounds((at,))
    return rounds


def need_rounds(rounds):
    """rounds, if they are ROUNDS."""
    return need_row(rounds, 0, MOST_ROUNDS)


def ticks_up_to(mean, number):
    """The sum of the things of the mean's rhythm ahead of the thing number."""
    return -(-number * mean[0] // mean[1])


def things_of(mean):
    """The rhythm of a mean of any size."""
    sums = [ticks_up_to(mean, at) for at in range(mean[1] + 1)]
    return tuple([sums[at + 1] - sums[at] for at in range(mean[1])])


def last_phase(mean):
    """The phase that is P's inverse modulo Q: the last one in order."""
    phase = 0
    while (mean[0] * phase - 1) % mean[1] != 0:
        phase = phase + 1
    return phase


def ordered_phases(mean):
    """All phases by -P times the phase modulo Q, of a mean of any size."""
    last = last_phase(mean)
    # -P times this is again the place modulo Q.
    return tuple([-place * last % mean[1] for place in range(mean[1])])


def rhythm_of(mean):
    """The RHYTHM of a MEAN."""
    return things_of(need_mean(mean))


def sum_from(mean, phase, count):
    """The sum of so many things of the rhythm from the thing phase on."""
    need_mean(mean)
    need_number(phase, 0, mean[1] - 1)
    need_number(count, 0, MOST)
    return ticks_up_to(mean, phase + count) - ticks_up_to(mean, phase)


def phases_in_order(mean):
    """All phases by -P times the phase modulo Q, the least first."""
    return ordered_phases(need_mean(mean))


def totals_of(rounds):
    """The sums of the first 0, 1, .. things."""
    total = 0
    totals = [total]
    for ticks in rounds:
        total = total + ticks
        totals.append(total)
    return totals


def first_apart(sums):
    """The first two places whose sums are two apart or more, None for none."""
    least = min(sums)
    greatest = max(sums)
    for first, one in enumerate(sums):
        # A sum that is far from no other one need not be held against all.
        if max(one - least, greatest - one) >= 2:
            for second in range(first + 1, len(sums)):
                if abs(one - sums[second]) >= 2:
                    return (first, second)
    return None


def unbalance(rounds):
    """The first two stretches whose sums are two apart or more, None for none."""
    need_rounds(rounds)
    totals = totals_of(rounds)
    for length in range(1, len(totals)):
        apart = first_apart([totals[at + length] - totals[at] for at in range(len(totals) - length)])
        if apart is not None:
            return (apart[0], apart[1], length)
    return None


def is_balanced(rounds):
    """Whether sums of as many things are nowhere two apart or more."""
    return unbalance(rounds) is None


def told_rhythm(rounds):
    """The MEAN and the PHASE of which ROUNDS are whole rhythms, None for none."""
    need_rounds(rounds)
    if len(rounds) == 0:
        return None
    mean = reduced(sum(rounds), len(rounds))
    rhythm = things_of(mean)
    for phase in range(len(rhythm)):
        turned = rhythm[phase:] + rhythm[:phase]
        if turned * (len(rounds) // len(rhythm)) == rounds:
            return (mean, phase)
    return None


def windows_of(mean, length):
    """All unlike stretches of so many things of the rhythm, ascending."""
    need_mean(mean)
    need_number(length, 0, MOST_LENGTH)
    rhythm = things_of(mean)
    row = rhythm * (length // len(rhythm) + 2)
    return tuple(sorted({row[at:at + length] for at in range(len(rhythm))}))


def backwards_phase(mean):
    """The PHASE from which on the rhythm is the one told backwards."""
    return last_phase(need_mean(mean))


def parents_of(mean):
    """The two MEANs beside a MEAN whose P and Q add up to its own, or None."""
    above, below = need_mean(mean)
    if below == 1:
        return None
    low_below = last_phase(mean)
    low_above = (above * low_below - 1) // below
    return ((low_above, low_below), (above - low_above, below - low_below))
