"""The MEAN of a HEIGHT: looked for step by step, or judged by its stretch."""

from sawrounds.errors import TooGreat
from sawrounds.exact import ceil_up
from sawrounds.fractions import need_number
from sawrounds.rhythms import MOST_BELOW_OF_MEAN, is_any_mean
from sawrounds.settings import height_of, need_height, need_part
from sawrounds.stretches import order_of

MOST_STEPS = 400


def search_begun(part, height):
    """The state (LEFT, RIGHT, FOUND) of the search ahead of its first step."""
    whole = ceil_up(height)
    left = (whole - 1, 1)
    right = (whole, 1)
    if order_of(part, right, height) == 0:
        return (left, right, right)
    return (left, right, None)


def search_step(part, height, state):
    """The state behind one more step, of a state that has not found yet."""
    left, right, _ = state
    mediant = (left[0] + right[0], left[1] + right[1])
    if mediant[1] > MOST_BELOW_OF_MEAN:
        raise TooGreat(MOST_BELOW_OF_MEAN)
    order = order_of(part, mediant, height)
    if order > 0:
        return (mediant, right, None)
    if order < 0:
        return (left, mediant, None)
    return (left, right, mediant)


def mean_found(part, height):
    """The mean of a height of any size; both were checked already."""
    state = search_begun(part, height)
    while state[2] is None:
        state = search_step(part, height, state)
    return state[2]


def mean_of(part, height):
    """The MEAN of a HEIGHT."""
    need_part(part)
    need_height(part, height)
    return mean_found(part, height)


def mean_of_setting(setting):
    """The MEAN of the PART and the HEIGHT of a SETTING."""
    height = height_of(setting)
    return mean_found(setting[2], height)


def is_mean(part, height, value):
    """Whether value, of any kind, is the MEAN of a HEIGHT."""
    need_part(part)
    need_height(part, height)
    return is_any_mean(value) and order_of(part, value, height) == 0


def mean_after(part, height, steps):
    """The state (LEFT, RIGHT, FOUND) of the search behind so many steps."""
    need_part(part)
    need_height(part, height)
    need_number(steps, 0, MOST_STEPS)
    state = search_begun(part, height)
    for _ in range(steps):
        if state[2] is None:
            state = search_step(part, height, state)
    return state
