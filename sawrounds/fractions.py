"""FRACTIONs: pairs (N, D) of integers in lowest terms, D from 1 on."""

from math import gcd

from sawrounds.errors import BadParameter
from sawrounds.exact import (
    ceil_up, difference_of, floor_down, fraction_power, is_less, product_of, quotient_of, reduced, sum_of,
)

MOST = 10 ** 30
MOST_FACTORS = 1000


def is_integer(value):
    """Whether value is an integer: True and False are none."""
    return type(value) == int


def is_fraction(value):
    """Whether value is a FRACTION that may be handed in."""
    if type(value) != tuple or len(value) != 2:
        return False
    above, below = value
    if not is_integer(above) or not is_integer(below):
        return False
    # The sizes come first, so that no divisor of huge numbers is looked for.
    return -MOST <= above <= MOST and 1 <= below <= MOST and gcd(above, below) == 1


def is_same(value, wanted):
    """Whether value, of any kind, is just wanted: an integer or a tuple of such."""
    if is_integer(wanted):
        return is_integer(value) and value == wanted
    if type(value) != tuple or len(value) != len(wanted):
        return False
    return all([is_same(one, other) for one, other in zip(value, wanted)])


def need_number(value, least, most):
    """value, if it is an integer from least to most."""
    if not is_integer(value) or not least <= value <= most:
        raise BadParameter(value)
    return value


def fraction(above, below):
    """The FRACTION above over below, of integers of any size."""
    if not is_integer(above):
        raise BadParameter(above)
    if not is_integer(below) or below == 0:
        raise BadParameter(below)
    return reduced(above, below)


def need_fraction(value):
    """value, if it is a FRACTION."""
    if not is_fraction(value):
        raise BadParameter(value)
    return value


def plus(one, other):
    """The sum of two FRACTIONs."""
    need_fraction(one)
    need_fraction(other)
    return sum_of(one, other)


def minus(one, other):
    """The FRACTION one less the FRACTION other."""
    need_fraction(one)
    need_fraction(other)
    return difference_of(one, other)


def times(one, other):
    """The product of two FRACTIONs."""
    need_fraction(one)
    need_fraction(other)
    return product_of(one, other)


def over(one, other):
    """The FRACTION one divided by the FRACTION other, which is not nought."""
    need_fraction(one)
    need_fraction(other)
    if other[0] == 0:
        raise BadParameter(other)
    return quotient_of(one, other)


def less(one, other):
    """Whether the FRACTION one is less than the FRACTION other."""
    need_fraction(one)
    need_fraction(other)
    return is_less(one, other)


def floor_of(one):
    """The greatest integer that is at most the FRACTION one."""
    need_fraction(one)
    return floor_down(one)


def ceil_of(one):
    """The least integer that is at least the FRACTION one."""
    need_fraction(one)
    return ceil_up(one)


def power_of(one, number):
    """The product of so many factors, each the FRACTION one."""
    need_fraction(one)
    need_number(number, 0, MOST_FACTORS)
    return fraction_power(one, number)
