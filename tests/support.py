"""What several test files need: things of wrong kinds, and exact comparing."""

from fractions import Fraction
from unittest.mock import Mock

from sawrounds.errors import BadParameter, BadSetting

MOST = 10 ** 30


class Odd:
    """A thing that answers no question that may be asked of it."""

    def refuse(self, *told):
        raise RuntimeError("asked")

    __eq__ = __ne__ = __lt__ = __le__ = __gt__ = __ge__ = refuse
    __len__ = __iter__ = __getitem__ = __bool__ = __index__ = __int__ = refuse
    __hash__ = __repr__ = __str__ = refuse


# No integers, whatever is done with them.
NO_INTEGERS = [
    None, True, False, 0.0, 1.0, 1.5, float("nan"), float("inf"), 1j, "", "1", b"1", (), (1,), (2, 2),
    [], [1], {}, set(), Fraction(1, 1), Mock(spec=int), object(), Odd(), int,
]

# No FRACTIONs that may be handed in.
NO_FRACTIONS = NO_INTEGERS + [
    0, 1, -1, 10 ** 5000, "ab", "12", b"ab", [1, 2], [1, 1], {1, 2}, {1: 2, 3: 4}, range(1, 3), Fraction(1, 2),
    (0,), (1, 2, 3), (1, 1, 1), (1, 1, 1, 1), ((1, 2),), ((1, 2), (1, 2)), ((1, 2), 3), (1, (2,)), ((), ()),
    (True, 1), (False, 1), (1, True), (0, True), (True, 2), (None, 1), (1, None), ("1", 2), (1, "2"),
    (1.0, 2), (1, 2.0), (float("nan"), 1), (1, 1j), ([1], 2), (1, [2]), (Odd(), 1), (1, Odd()),
    (2, 4), (-2, 4), (6, 3), (0, 2), (0, MOST), (MOST, MOST), (1, 0), (0, 0), (1, -1), (1, -2), (0, -1),
    (MOST + 1, 1), (-MOST - 1, 1), (1, MOST + 1), (-1, MOST + 1), (10 ** 5000, 1), (1, 10 ** 5000), (0, MOST + 1),
    Mock(spec=tuple), tuple,
]

# FRACTIONs up to the greatest ones that may be handed in.
FRACTIONS = [
    (0, 1), (1, 1), (-1, 1), (1, 2), (-1, 2), (2, 3), (-7, 3), (7, 2), (10, 1), (-10, 1), (999, 1000),
    (MOST, 1), (-MOST, 1), (1, MOST), (-1, MOST), (MOST, MOST - 1), (-MOST, MOST - 1), (MOST - 1, MOST),
    (123456789, 987654322), (-(10 ** 15 + 37), 10 ** 15 + 1),
]


def number(pair):
    """The number that a FRACTION is, by Python's own fractions."""
    return Fraction(pair[0], pair[1])


def pair(told):
    """The FRACTION that is the number, by Python's own fractions."""
    told = Fraction(told)
    return (told.numerator, told.denominator)


def alike_in_kind(one, other):
    """Whether both are the same things of the same kinds: 1 is not True."""
    if type(one) is not type(other):
        return False
    if type(one) is tuple:
        return len(one) == len(other) and all(alike_in_kind(a, b) for a, b in zip(one, other))
    return one == other


def check(case, got, wanted):
    """Fails unless got is just wanted, kinds and all."""
    if not alike_in_kind(got, wanted):
        case.fail("not what is wanted")


def check_refused(case, value, function, /, *told, **named):
    """Fails unless BadParameter is raised with just this value."""
    with case.assertRaises(ValueError) as held:
        function(*told, **named)
    case.assertIs(type(held.exception), BadParameter)
    case.assertIs(held.exception.value, value)


def check_bad_setting(case, place, function, /, *told, **named):
    """Fails unless BadSetting is raised with just this place."""
    with case.assertRaises(ValueError) as held:
        function(*told, **named)
    case.assertIs(type(held.exception), BadSetting)
    check(case, held.exception.place, place)
