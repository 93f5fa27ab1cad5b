"""What several test files need: things of wrong kinds, and exact comparing."""

import functools
import math
from fractions import Fraction
from unittest.mock import Mock

from sawrounds.errors import (
    BadDeed, BadParameter, BadRounds, BadSenders, BadSetting, BadText, NoHeight, NoMean, NoRow, TooGreat,
)

MOST = 10 ** 30


class Odd:
    """A thing that answers no question that may be asked of it."""

    def refuse(self, *told):
        raise RuntimeError("asked")

    __eq__ = __ne__ = __lt__ = __le__ = __gt__ = __ge__ = refuse
    __len__ = __iter__ = __getitem__ = __bool__ = __index__ = __int__ = refuse
    __hash__ = __repr__ = __str__ = refuse


# No integers, whatever is done with them.
NO_INTEGERS = [
    None, True, False, 0.0, 1.0, 1.5, float("nan"), float("inf"), 1j, "", "1", b"1", (), (1,), (2, 2),
    [], [1], {}, set(), Fraction(1, 1), Mock(spec=int), object(), Odd(), int,
]

# No FRACTIONs that may be handed in.
NO_FRACTIONS = NO_INTEGERS + [
    0, 1, -1, 10 ** 5000, "ab", "12", b"ab", [1, 2], [1, 1], {1, 2}, {1: 2, 3: 4}, range(1, 3), Fraction(1, 2),
    (0,), (1, 2, 3), (1, 1, 1), (1, 1, 1, 1), ((1, 2),), ((1, 2), (1, 2)), ((1, 2), 3), (1, (2,)), ((), ()),
    (True, 1), (False, 1), (1, True), (0, True), (True, 2), (None, 1), (1, None), ("1", 2), (1, "2"),
    (1.0, 2), (1, 2.0), (float("nan"), 1), (1, 1j), ([1], 2), (1, [2]), (Odd(), 1), (1, Odd()),
    (2, 4), (-2, 4), (6, 3), (0, 2), (0, MOST), (MOST, MOST), (1, 0), (0, 0), (1, -1), (1, -2), (0, -1),
    (MOST + 1, 1), (-MOST - 1, 1), (1, MOST + 1), (-1, MOST + 1), (10 ** 5000, 1), (1, 10 ** 5000), (0, MOST + 1),
    Mock(spec=tuple), tuple,
]

# The two settings of the document's example.
FIRST = ((10, 1), (1, 1), (1, 2), (0, 1))
SECOND = ((10, 1), (3, 2), (1, 2), (0, 1))

NO_SETTINGS = [
    None, True, 0, 4, 1.5, "", "abcd", b"abcd", [], list(FIRST), {}, dict(enumerate(FIRST)), set(FIRST),
    (), FIRST[:1], FIRST[:2], FIRST[:3], FIRST + ((0, 1),), (FIRST,), (FIRST, (0, 1)), object(), Odd(),
    Mock(spec=tuple),
]
NO_STEPS = NO_FRACTIONS + [(0, 1), (-1, 1), (-1, MOST), (-MOST, 1)]
NO_PARTS = NO_FRACTIONS + [
    (0, 1), (1, 1), (-1, 2), (3, 2), (2, 1), (-1, 1), (1, 1001), (500, 1001), (1000, 1001), (1001, 1000),
    (1, 1002), (-999, 1000), (1, MOST), (MOST - 1, MOST), (MOST, 1),
]
NO_SPOTS = NO_FRACTIONS + [(0, 1), (-1, 1), (-1, 2), (2, 1), (3, 2), (MOST, MOST - 1), (-1, MOST), (MOST, 1)]

# No HEIGHTs at the PART (1, 2).
NO_HEIGHTS = NO_FRACTIONS + [
    (0, 1), (-1, 1), (-1, 2), (1, 3), (499, 1000), (MOST // 2 - 1, MOST - 1), (-MOST, 1), (1, MOST),
]
# No STARTs of FIRST and SECOND, the LIMIT of which is 10.
NO_STARTS = NO_FRACTIONS + [(11, 1), (21, 2), (10 ** 29 + 1, 10 ** 28), (MOST, 1), (MOST, MOST - 1 - 9 * MOST // 10)]
NO_MEANS = NO_FRACTIONS + [
    (0, 1), (-1, 1), (1, 2), (2, 3), (299, 300), (-7, 2), (MOST, MOST - 1), (302, 301), (603, 301), (10 ** 29, 301),
    (1, 301), (1000, 999), (MOST + 1, 300), (MOST + 3, 2),
]


def no_numbers(least, most):
    """What is no integer from least to most."""
    return NO_INTEGERS + [least - 1, most + 1, -MOST, MOST * MOST, -(10 ** 5000), 10 ** 5000, (least,), [most]]


# FRACTIONs up to the greatest ones that may be handed in.
FRACTIONS = [
    (0, 1), (1, 1), (-1, 1), (1, 2), (-1, 2), (2, 3), (-7, 3), (7, 2), (10, 1), (-10, 1), (999, 1000),
    (MOST, 1), (-MOST, 1), (1, MOST), (-1, MOST), (MOST, MOST - 1), (-MOST, MOST - 1), (MOST - 1, MOST),
    (123456789, 987654322), (-(10 ** 15 + 37), 10 ** 15 + 1),
]


def number(pair):
    """The number that a FRACTION is, by Python's own fractions."""
    return Fraction(pair[0], pair[1])


def pair(told):
    """The FRACTION that is the number, by Python's own fractions."""
    told = Fraction(told)
    return (told.numerator, told.denominator)


def alike_in_kind(one, other):
    """Whether both are the same things of the same kinds: 1 is not True."""
    if type(one) is not type(other):
        return False
    if type(one) is tuple:
        return len(one) == len(other) and all(alike_in_kind(a, b) for a, b in zip(one, other))
    return one == other


def check(case, got, wanted):
    """Fails unless got is just wanted, kinds and all."""
    if not alike_in_kind(got, wanted):
        case.fail("not what is wanted")


def check_refused(case, value, function, /, *told, **named):
    """Fails unless BadParameter is raised with just this value."""
    check_error(case, BadParameter, value, function, *told, **named)


def check_bad_setting(case, place, function, /, *told, **named):
    """Fails unless BadSetting is raised with just this place."""
    check_error(case, BadSetting, place, function, *told, **named)


def refused(wrongs):
    """The wrong values, each with the error that it is refused with."""
    return [(wrong, BadParameter, wrong) for wrong in wrongs]


def wrong_settings():
    """Wrong settings, each with the error that it is refused with."""
    found = [(wrong, BadSetting, ()) for wrong in NO_SETTINGS]
    for place, wrongs in enumerate([NO_FRACTIONS, NO_STEPS, NO_PARTS, NO_FRACTIONS]):
        for wrong in wrongs:
            found.append((FIRST[:place] + (wrong,) + FIRST[place + 1:], BadSetting, (place,)))
            found.append((FIRST[:place] + (wrong,) * (4 - place), BadSetting, (place,)))
    found.append((FIRST[:3] + ((5, 1),), BadSetting, ()))
    found.append((((10, 1), (11, 1), (1, 2), (0, 1)), BadSetting, ()))
    return found


def wrong_rounds(most=300):
    """Wrong ROUNDS of so many things at most, each with the error that it is refused with."""
    wholes = [
        None, True, 0, 3, 1.5, "", "34", b"34", [], [3, 4], {}, {3: 4}, {3, 4}, range(3), iter(()), object(), Odd(),
        (3,) * (most + 1), (3,) * 1000, (None,) * (most + 1), Mock(spec=tuple), tuple,
    ]
    found = [(wrong, BadRounds, ()) for wrong in wholes]
    for wrong in NO_INTEGERS + [0, -1, -3, MOST + 1, 10 ** 5000, -MOST, (3,), ()]:
        found.append(((wrong,), BadRounds, (0,)))
        found.append(((3, wrong, 4), BadRounds, (1,)))
        found.append(((3, 4, 4, wrong, None), BadRounds, (3,)))
        found.append(((3,) * (most - 1) + (wrong,), BadRounds, (most - 1,)))
    return found


ATTRIBUTES = {
    BadParameter: ["value"], BadSetting: ["place"], BadRounds: ["place"], BadSenders: ["place"], BadDeed: ["place"],
    NoHeight: ["paper"], TooGreat: ["most"], BadText: ["line", "word"], NoRow: [], NoMean: [],
}


def check_error(case, kind, told, function, /, *given, **named):
    """Fails unless just this error is raised, with just this attribute.

    Of an error with another number of attributes told is the tuple of them.
    """
    with case.assertRaises(ValueError) as held:
        function(*given, **named)
    case.assertIs(type(held.exception), kind)
    values = tuple(getattr(held.exception, name) for name in ATTRIBUTES[kind])
    if kind is BadParameter:
        case.assertIs(values[0], told)
    elif len(values) == 1:
        check(case, values[0], told)
    else:
        check(case, values, told)


def wrong_senders(right):
    """Wrong SENDERS where right are such, each with the error that it is refused with."""
    wholes = [
        None, True, 0, 2, 1.5, "", "12", b"12", [], list(right), {}, set(right), (), right * 9, ((1, 1),) * 9,
        (None,) * 9, object(), Odd(), Mock(spec=tuple), tuple,
        # Not STEP together.
        right + ((1, MOST),), right + right[:1], right[1:], right[:1] + ((MOST, 1),), ((1, 7),) * 8,
    ]
    found = [(wrong, BadSenders, ()) for wrong in wholes]
    for wrong in NO_STEPS:
        found.append(((wrong,), BadSenders, (0,)))
        found.append(((right[0], wrong), BadSenders, (1,)))
        found.append((((1, 8),) * 7 + (wrong,), BadSenders, (7,)))
        found.append((((1, 8), (2, 7), wrong, None), BadSenders, (2,)))
    return found


def plain_senders(setting, senders, levels, ticks):
    """The pairs (levels, whether they were cut) behind each tick, plainly."""
    limit, step, part, keep = map(number, setting)
    steps = [number(one) for one in senders]
    now = [number(one) for one in levels]
    found = []
    for _ in range(ticks):
        now = [level + rise for level, rise in zip(now, steps)]
        is_cut = sum(now) > limit
        if is_cut:
            now = [part * level + rise / step * keep for level, rise in zip(now, steps)]
        found.append((now, is_cut))
    return found


def check_too_great(case, most, function, /, *given, **named):
    """Fails unless TooGreat is raised with just this number."""
    check_error(case, TooGreat, most, function, *given, **named)


def check_refusals(case, function, rights, wrongs, works=True):
    """Fails unless each parameter is checked, and ahead of all behind it.

    rights are parameters by their names, in order, that are let together;
    wrongs the rows of what is refused for each of these names.
    """
    if works:
        case.assertEqual(function(**rights), function(*rights.values()))
    names = list(rights)
    for at, name in enumerate(names):
        for wrong, kind, told in wrongs[name]:
            given = [rights[other] for other in names]
            given[at] = wrong
            check_error(case, kind, told, function, *given)
            check_error(case, kind, told, function, **dict(zip(reversed(names), reversed(given))))
            for other in (None, True, (2, 4)):
                given[at + 1:] = [other] * (len(names) - at - 1)
                check_error(case, kind, told, function, *given)


def plain_ticks(setting, start, ticks):
    """The pairs (level, whether it was cut) behind each tick, plainly."""
    limit, step, part, keep = map(number, setting)
    level = number(start)
    found = []
    for _ in range(ticks):
        level = level + step
        is_cut = level > limit
        if is_cut:
            level = part * level + keep
        found.append((level, is_cut))
    return found


def plain_rounds(part, height, spot, count):
    """The rounds behind a spot, and all spots from the first one on, plainly."""
    spots = [number(spot)]
    rounds = []
    for _ in range(count):
        rest = number(part) * spots[-1] - number(height)
        ticks = 0 if rest > 0 else math.floor(-rest) + 1
        if not 0 < rest + ticks <= 1:
            raise AssertionError("the rule was misread")
        rounds.append(ticks)
        spots.append(rest + ticks)
    return tuple(rounds), spots


def plain_rhythm(mean):
    """The rhythm of a mean by the words of its promise."""
    told = number(mean)
    return tuple(math.ceil((at + 1) * told) - math.ceil(at * told) for at in range(mean[1]))


def turned(things, phase, count):
    """So many things of a rhythm without end, from the phase on."""
    return (things * (count // len(things) + 2))[phase:phase + count]


@functools.lru_cache(maxsize=None)
def plain_ends(part, mean):
    """Both ends of a stretch by the floor sum, this by one period of it."""
    x = number(part)
    p, q = mean
    period = sum(x ** (at - 1) * (at * p // q) for at in range(1, q + 1))
    floors = (period + x ** q * p / (1 - x)) / (1 - x ** q)
    high = (1 - x) ** 2 * floors
    return high - (1 - x) ** 2 * x ** (q - 1) / (1 - x ** q), high


def simplest(low, high):
    """The fraction from low to high that has the least divisor."""
    whole = math.ceil(low)
    if whole <= high:
        return Fraction(whole)
    rest = simplest(1 / (high - whole + 1), 1 / (low - whole + 1))
    return whole - 1 + 1 / rest


def means_up_to(most, least=1, greatest=2):
    """All fractions from least to greatest with Q up to most, ascending."""
    found = {Fraction(p, q) for q in range(1, most + 1) for p in range(least * q, greatest * q + 1)}
    return [(one.numerator, one.denominator) for one in sorted(found)]


def height_for(part, mean):
    """The simplest HEIGHT that has the mean, whatever the mean's Q is."""
    return pair(simplest(*plain_ends(part, mean)))


# Parts and heights whose means have a Q above 300.
TOO_GREAT = [
    (part, height_for(part, mean))
    for part, mean in [
        ((9, 10), (302, 301)), ((9, 10), (601, 301)), ((9, 10), (1000, 301)), ((9, 10), (777, 302)),
        ((99, 100), (1001, 500)), ((999, 1000), (1301, 601)), ((999, 1000), (10 ** 9 + 1, 400)),
    ]
] + [((999, 1000), (302, 301))]
