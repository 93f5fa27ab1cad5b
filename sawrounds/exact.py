"""Fractions of any size, without checks: for what was checked already.

What is worked out on the way may be greater than what may be handed in, so
the other files reckon with these functions and not with the checked ones.
Only `reduced`, `is_less`, `floor_down`, `ceil_up` and `total_of` take
fractions that are not in lowest terms.
"""

from math import gcd


def reduced(above, below):
    """above over below in lowest terms; below is not 0."""
    divisor = gcd(above, below)
    if below < 0:
        divisor = -divisor
    return (above // divisor, below // divisor)


def sum_of(one, other):
    """one and other together, both in lowest terms."""
    shared = gcd(one[1], other[1])
    part = one[1] // shared
    above = one[0] * (other[1] // shared) + other[0] * part
    # What both divisors share is all that can still be taken out: where one
    # of them is small, no divisor of two great numbers is looked for.
    common = gcd(above, shared)
    return (above // common, part * (other[1] // common))


def difference_of(one, other):
    """one less other, both in lowest terms."""
    return sum_of(one, negative_of(other))


def product_of(one, other):
    """one times other, both in lowest terms."""
    first = gcd(one[0], other[1])
    second = gcd(other[0], one[1])
    return ((one[0] // first) * (other[0] // second), (one[1] // second) * (other[1] // first))


def quotient_of(one, other):
    """one divided by other, which is not nought, both in lowest terms."""
    above, below = other
    if above < 0:
        above, below = -above, -below
    return product_of(one, (below, above))


def negative_of(one):
    """one with the other sign."""
    return (-one[0], one[1])


def is_less(one, other):
    """Whether one is less than other, as numbers."""
    return one[0] * other[1] < other[0] * one[1]


def floor_down(one):
    """The greatest integer that is at most one."""
    return one[0] // one[1]


def ceil_up(one):
    """The least integer that is at least one."""
    return -(-one[0] // one[1])


def power(base, number):
    """The product of so many factors, each the integer base."""
    result = 1
    square = base
    while number > 0:
        if number & 1 == 1:
            result = result * square
        number = number >> 1
        # The last square is not needed, and it is the greatest one.
        if number > 0:
            square = square * square
    return result


def fraction_power(one, number):
    """The product of so many factors, each the fraction one."""
    # Powers of numbers without a common divisor have none either.
    return (power(one[0], number), power(one[1], number))


def least_power(part, share):
    """The least number N such that PART ** N is at most share, which is below 1."""
    squares = [part]
    while is_less(share, squares[-1]):
        squares.append(fraction_power(squares[-1], 2))
    # The greatest number with a greater power, its binary digits one by one.
    number = 0
    above = (1, 1)
    for square in reversed(squares[:-1]):
        number = 2 * number
        trial = (above[0] * square[0], above[1] * square[1])
        if is_less(share, trial):
            number = number + 1
            above = trial
    return number + 1


def total_of(numbers):
    """The sum of a list of fractions, neither they nor it in lowest terms.

    By halves, as a sum one by one would be a great number from early on.
    """
    if len(numbers) == 1:
        return numbers[0]
    half = len(numbers) // 2
    one = total_of(numbers[:half])
    other = total_of(numbers[half:])
    return (one[0] * other[1] + other[0] * one[1], one[1] * other[1])
