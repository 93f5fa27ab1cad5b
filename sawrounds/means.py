"""The MEAN of a HEIGHT: looked for step by step, or judged by its stretch."""

from sawrounds.errors import TooGreat
from sawrounds.exact import ceil_up, is_less
from sawrounds.fractions import need_number
from sawrounds.rhythms import MOST_BELOW_OF_MEAN, is_any_mean
from sawrounds.settings import height_of, need_height, need_part
from sawrounds.stretches import joined, order_of, order_within, weighed

MOST_STEPS = 400


def mediant_of(left, right):
    """The pair of both sums, thing by thing, of two means, weighed or not."""
    return (left[0] + right[0], left[1] + right[1])


def leaped(sought, moving, stride, order):
    """moving, led on by 2, 4, 8, .. times stride as long as it stays on its side.

    All mediants that are leapt over lie on this side, too, as stretches stand
    in the order of their means.
    """
    part, low, high, most = sought
    while moving[1] + 2 * stride[1] <= most:
        stride = joined(stride, stride)
        trial = joined(moving, stride)
        if order > 0:
            trial = joined(stride, moving)
        if order_within(part, trial, low, high) != order:
            return moving
        moving = trial
    return moving


def search_ended(part, low, high, most):
    """The state (LEFT, RIGHT, FOUND) at the end of the search, of weighed means.

    What is looked for is the mean with the least Q that has a height from low
    to high in its stretch; FOUND is None if the next Q would be above most.
    """
    sought = (part, low, high, most)
    whole = ceil_up(low)
    left = weighed(part, (whole - 1, 1))
    right = weighed(part, (whole, 1))
    if order_within(part, right, low, high) == 0:
        return (left, right, right)
    while left[1] + right[1] <= most:
        mediant = joined(right, left)
        order = order_within(part, mediant, low, high)
        if order == 0:
            return (left, right, mediant)
        if order > 0:
            left = leaped(sought, mediant, right, order)
        else:
            right = leaped(sought, mediant, left, order)
    return (left, right, None)


def mean_within(part, low, high):
    """The mean with the least Q that has a height from low to high; all was checked."""
    found = search_ended(part, low, high, MOST_BELOW_OF_MEAN)[2]
    if found is None:
        raise TooGreat(MOST_BELOW_OF_MEAN)
    return found[:2]


def mean_found(part, height):
    """The mean of a height of any size; both were checked already."""
    return mean_within(part, height, height)


def mean_of(part, height):
    """The MEAN of a HEIGHT."""
    need_part(part)
    need_height(part, height)
    return mean_found(part, height)


def mean_of_setting(setting):
    """The MEAN of the PART and the HEIGHT of a SETTING."""
    height = height_of(setting)
    return mean_found(setting[2], height)


def is_mean(part, height, value):
    """Whether value, of any kind, is the MEAN of a HEIGHT."""
    need_part(part)
    need_height(part, height)
    return is_any_mean(value) and order_of(part, value, height) == 0


def search_step(state, aim):
    """The state (LEFT, RIGHT, FOUND) behind one more step of a search that comes to aim."""
    left, right, found = state
    mediant = mediant_of(left, right)
    if found is not None:
        return state
    if mediant[1] > MOST_BELOW_OF_MEAN:
        raise TooGreat(MOST_BELOW_OF_MEAN)
    if mediant == aim:
        return (left, right, mediant)
    if is_less(mediant, aim):
        return (mediant, right, None)
    return (left, mediant, None)


def mean_after(part, height, steps):
    """The state (LEFT, RIGHT, FOUND) of the search behind so many steps."""
    need_part(part)
    need_height(part, height)
    need_number(steps, 0, MOST_STEPS)
    left, right, found = search_ended(part, height, height, MOST_BELOW_OF_MEAN)
    # Where the search ends tells each step on the way to it.
    aim = mediant_of(left, right)
    if found is not None:
        aim = found[:2]
    whole = ceil_up(height)
    state = ((whole - 1, 1), (whole, 1), None)
    if aim == state[1]:
        state = (state[0], aim, aim)
    for _ in range(steps):
        state = search_step(state, aim)
    return state
