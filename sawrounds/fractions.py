"""FRACTIONs: pairs (N, D) of integers in lowest terms, D from 1 on."""

from math import gcd

from sawrounds.errors import BadParameter
from sawrounds.exact import difference_of, is_less, product_of, quotient_of, reduced, sum_of

MOST = 10 ** 30
MOST_FACTORS = 1000


def is_integer(value):
    """Whether value is an integer: True and False are none."""
    return type(value) == int


def is_fraction(value):
    """Whether value is a FRACTION that may be handed in."""
    if type(value) != tuple or len(value) != 2:
        return False
    above, below = value
    if not is_integer(above) or not is_integer(below):
        return False
    # The sizes come first, so that no divisor of huge numbers is looked for.
    return -MOST <= above <= MOST and 1 <= below <= MOST and gcd(above, below) == 1


def fraction(above, below):
    """The FRACTION above over below, of integers of any size."""
    if not is_integer(above):
        raise BadParameter(above)
    if not is_integer(below) or below == 0:
        raise BadParameter(below)
    return reduced(above, below)


def need_fraction(value):
    """value, if it is a FRACTION."""
    if not is_fraction(value):
        raise BadParameter(value)
    return value


def plus(one, other):
    """The sum of two FRACTIONs."""
    need_fraction(one)
    need_fraction(other)
    return sum_of(one, other)


def minus(one, other):
    """The FRACTION one less the FRACTION other."""
    need_fraction(one)
    need_fraction(other)
    return difference_of(one, other)


def times(one, other):
    """The product of two FRACTIONs."""
    need_fraction(one)
    need_fraction(other)
    return product_of(one, other)


def over(one, other):
    """The FRACTION one divided by the FRACTION other, which is not nought."""
    need_fraction(one)
    need_fraction(other)
    if other[0] == 0:
        raise BadParameter(other)
    return quotient_of(one, other)


def less(one, other):
    """Whether the FRACTION one is less than the FRACTION other."""
    need_fraction(one)
    need_fraction(other)
    return is_less(one, other)


def floor_of(one):
    """The greatest integer that is at most the FRACTION one."""
    need_fraction(one)
    return one[0] // one[1]


def ceil_of(one):
    """The least integer that is at least the FRACTION one."""
    need_fraction(one)
    return -(-one[0] // one[1])


def power_of(one, number):
    """The product of so many factors, each the FRACTION one."""
    need_fraction(one)
    if not is_integer(number) or not 0 <= number <= MOST_FACTORS:
        raise BadParameter(number)
    above = 1
    below = 1
    # Powers of numbers without a common divisor have none either.
    for _ in range(number):
        above = above * one[0]
        below = below * one[1]
    return (above, below)
