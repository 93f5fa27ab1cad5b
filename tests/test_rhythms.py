"""Promises 2, 5, 24, 25 and 26: MEANs, their RHYTHMs, what is balanced."""

import itertools
import math
import unittest

from sawrounds.errors import BadRounds
from sawrounds.rhythms import (
    backwards_phase, is_balanced, need_mean, need_rounds, parents_of, phases_in_order, rhythm_of, sum_from,
    told_rhythm, unbalance, windows_of,
)
from tests.support import (
    FRACTIONS, MOST, NO_INTEGERS, NO_MEANS, check, check_error, check_refused, check_refusals, means_up_to, no_numbers,
    number, plain_rhythm, refused, turned, wrong_rounds,
)

MEANS = means_up_to(9, 1, 4) + [
    (10, 1), (71, 10), (73, 10), (100, 61), (577, 60), (599, 300), (301, 300), (487, 300), (597, 299), (MOST, 1),
    (MOST, 3), (MOST - 1, 2), (10 ** 29 + 3, 7), (MOST // 8 + 1, 13),
]


def unbalance_plainly(rounds):
    """The first of all pairs of stretches, each added up for itself."""
    for length in range(1, len(rounds) + 1):
        sums = [sum(rounds[at:at + length]) for at in range(len(rounds) - length + 1)]
        for one in range(len(sums)):
            for other in range(one + 1, len(sums)):
                if abs(sums[one] - sums[other]) >= 2:
                    return (one, other, length)
    return None


class Needed(unittest.TestCase):
    def test_means_come_back(self):
        for mean in MEANS:
            self.assertIs(need_mean(mean), mean)
        mean = (7, 2)
        self.assertIs(need_mean(mean=mean), mean)

    def test_all_small_pairs(self):
        for above in range(-3, 20):
            for below in range(-2, 12):
                told = (above, below)
                if below >= 1 and above >= below and math.gcd(above, below) == 1:
                    self.assertIs(need_mean(told), told)
                else:
                    check_refused(self, told, need_mean, told)

    def test_the_ends(self):
        for mean in [(1, 1), (300, 299), (301, 300), (MOST, 1), (MOST, 299), (MOST - 1, 200), (MOST - 3, 300 - 1)]:
            if math.gcd(*mean) == 1:
                self.assertIs(need_mean(mean), mean)
        for wrong in [(302, 301), (MOST, 301), (MOST + 1, 1), (MOST + 1, 300), (299, 300), (1, 2), (1, 300), (0, 1)]:
            check_refused(self, wrong, need_mean, wrong)

    def test_fractions_below_one_or_with_great_divisors(self):
        for told in FRACTIONS:
            if told[0] >= told[1] and told[1] <= 300:
                self.assertIs(need_mean(told), told)
            else:
                check_refused(self, told, need_mean, told)


class Refused(unittest.TestCase):
    WRONGS = {
        "mean": refused(NO_MEANS),
        "phase": refused(no_numbers(0, 6)),
        "count": refused(no_numbers(0, MOST)),
        "length": refused(no_numbers(0, 60)),
        "rounds": wrong_rounds(),
    }

    def test_of_a_mean_alone(self):
        for function in (need_mean, rhythm_of, phases_in_order, backwards_phase, parents_of):
            check_refusals(self, function, {"mean": (10, 7)}, self.WRONGS)

    def test_sum_from(self):
        check_refusals(self, sum_from, {"mean": (10, 7), "phase": 3, "count": 5}, self.WRONGS)

    def test_windows_of(self):
        check_refusals(self, windows_of, {"mean": (10, 7), "length": 3}, self.WRONGS)

    def test_of_rounds(self):
        for function in (need_rounds, unbalance, is_balanced, told_rhythm):
            check_refusals(self, function, {"rounds": (3, 4)}, self.WRONGS)

    def test_a_phase_is_less_than_q(self):
        for mean in MEANS:
            check(self, sum_from(mean, mean[1] - 1, 0), 0)
            check_refused(self, mean[1], sum_from, mean, mean[1], 0)
            check_refused(self, -1, sum_from, mean, -1, 0)
            check_refused(self, mean[1], sum_from, mean, mean[1], None)

    def test_like_what_was_let_but_not_it(self):
        check(self, rhythm_of((1, 1)), (1,))
        check(self, told_rhythm((1, 1)), ((1, 1), 0))
        check(self, sum_from((1, 1), 0, 1), 1)
        for wrong in [(True, 1), (1, True), (True, True), (1.0, 1), [1, 1]]:
            check_refused(self, wrong, rhythm_of, wrong)
        for function in (need_rounds, unbalance, is_balanced, told_rhythm):
            check_error(self, BadRounds, (1,), function, (1, True))
            check_error(self, BadRounds, (0,), function, (True, 1))
        check_refused(self, False, sum_from, (1, 1), False, 1)
        check_refused(self, True, sum_from, (1, 1), 0, True)
        check_refused(self, True, windows_of, (1, 1), True)


class NeedRounds(unittest.TestCase):
    def test_rounds_come_back(self):
        for rounds in [(), (1,), (3, 4), (MOST,), (1, MOST), (3,) * 300, tuple(range(1, 301)), (MOST,) * 300]:
            self.assertIs(need_rounds(rounds), rounds)
        self.assertIs(need_rounds(rounds=()), ())

    def test_the_first_wrong_thing_is_told(self):
        for wrong in NO_INTEGERS + [0, MOST + 1, -1]:
            check_error(self, BadRounds, (2,), need_rounds, (1, 2, wrong, 0, wrong))
        check_error(self, BadRounds, (), need_rounds, (0,) * 301)
        check_error(self, BadRounds, (0,), need_rounds, (0,) * 300)


class Rhythm(unittest.TestCase):
    def test_examples(self):
        check(self, rhythm_of((10, 3)), (4, 3, 3))
        check(self, rhythm_of(mean=(7, 2)), (4, 3))
        check(self, rhythm_of((5, 1)), (5,))
        check(self, rhythm_of((1, 1)), (1,))
        check(self, rhythm_of((3, 1)), (3,))
        check(self, rhythm_of((13, 5)), (3, 3, 2, 3, 2))

    def test_by_its_words(self):
        for mean in MEANS:
            check(self, rhythm_of(mean), plain_rhythm(mean))

    def test_facts(self):
        for mean in MEANS:
            rhythm = rhythm_of(mean)
            self.assertEqual(len(rhythm), mean[1])
            self.assertEqual(sum(rhythm), mean[0])
            self.assertEqual(set(rhythm), {math.floor(number(mean)), math.ceil(number(mean))})
            for less in range(1, mean[1]):
                self.assertNotEqual(rhythm[less:] + rhythm[:less], rhythm)


class Sums(unittest.TestCase):
    def test_thing_by_thing(self):
        for mean in MEANS:
            rhythm = plain_rhythm(mean)
            for phase in {0, 1, mean[1] // 2, mean[1] - 1} & set(range(mean[1])):
                row = turned(rhythm, phase, 2 * mean[1] + 2)
                for count in {0, 1, 2, mean[1] - 1, mean[1], mean[1] + 1, 2 * mean[1] + 2}:
                    check(self, sum_from(mean, phase, count), sum(row[:count]))

    def test_all_of_small_ones(self):
        for mean in means_up_to(7, 1, 3):
            rhythm = plain_rhythm(mean)
            for phase in range(mean[1]):
                for count in range(20):
                    check(self, sum_from(mean, phase, count), sum(turned(rhythm, phase, count)))

    def test_examples(self):
        check(self, sum_from((10, 3), 0, 2), 7)
        check(self, sum_from((10, 3), 1, 2), 6)
        check(self, sum_from(count=4, phase=2, mean=(10, 3)), 13)

    def test_far(self):
        check(self, sum_from((7, 2), 0, MOST), 35 * 10 ** 29)
        check(self, sum_from((7, 2), 1, MOST), 35 * 10 ** 29)
        check(self, sum_from((7, 2), 1, MOST - 1), 35 * 10 ** 29 - 4)
        check(self, sum_from((7, 2), 0, MOST - 1), 35 * 10 ** 29 - 3)
        check(self, sum_from((MOST, 3), 2, MOST), -(-(2 + MOST) * MOST // 3) - -(-2 * MOST // 3))

    def test_floor_or_ceil(self):
        for mean in MEANS:
            last = phases_in_order(mean)[-1]
            for count in (1, 2, 5, mean[1], 1000, 10 ** 20):
                exact = count * number(mean)
                for phase in {0, last, mean[1] // 2}:
                    told = sum_from(mean, phase, count)
                    self.assertIn(told, (math.floor(exact), math.ceil(exact)))
                before = -count % mean[1]
                check(self, sum_from(mean, before, count), math.floor(exact))
                before = (last - count) % mean[1]
                check(self, sum_from(mean, before, count), math.ceil(exact))


class Phases(unittest.TestCase):
    def test_examples(self):
        check(self, phases_in_order((10, 3)), (0, 2, 1))
        check(self, phases_in_order(mean=(7, 2)), (0, 1))
        check(self, phases_in_order((5, 1)), (0,))
        check(self, backwards_phase((10, 3)), 1)
        check(self, backwards_phase(mean=(5, 1)), 0)

    def test_by_their_words(self):
        for mean in MEANS:
            wanted = tuple(sorted(range(mean[1]), key=lambda phase: -mean[0] * phase % mean[1]))
            check(self, phases_in_order(mean), wanted)

    def test_backwards(self):
        for mean in MEANS:
            phase = backwards_phase(mean)
            self.assertIn(phase, range(mean[1]))
            rhythm = plain_rhythm(mean)
            self.assertEqual(turned(rhythm, phase, mean[1]), rhythm[::-1])
            self.assertEqual(mean[0] * phase % mean[1], 1 % mean[1])
            self.assertIs(type(phase), int)


class Balanced(unittest.TestCase):
    def hold(self, rounds):
        """Holds rounds against all pairs of their stretches."""
        wanted = unbalance_plainly(rounds)
        check(self, unbalance(rounds), wanted)
        check(self, is_balanced(rounds), wanted is None)
        if wanted is not None and wanted[2] > 1:
            one, other, length = wanted
            apart = sum(rounds[one:one + length]) - sum(rounds[other:other + length])
            self.assertEqual(abs(apart), 2)

    def test_examples(self):
        check(self, unbalance((4, 3, 3, 4, 4)), (1, 3, 2))
        check(self, unbalance(rounds=(3, 5)), (0, 1, 1))
        check(self, is_balanced((4, 3, 3, 4, 4)), False)
        check(self, is_balanced(rounds=(4, 3, 3, 4)), True)

    def test_the_ends(self):
        check(self, unbalance(()), None)
        check(self, is_balanced(()), True)
        check(self, unbalance((7,)), None)
        check(self, unbalance((MOST, MOST - 1)), None)
        check(self, unbalance((MOST, MOST - 2)), (0, 1, 1))
        check(self, unbalance((1, MOST)), (0, 1, 1))
        check(self, unbalance((3,) * 300), None)
        check(self, unbalance((3,) * 299 + (5,)), (0, 299, 1))
        check(self, unbalance((3,) * 298 + (4, 5)), (0, 299, 1))
        check(self, unbalance((4, 4) + (3,) * 296 + (4, 4)), (0, 2, 2))
        check(self, unbalance((3, 3) + (4,) * 2 + (3,) * 296), (0, 2, 2))

    def test_all_short_ones(self):
        for length in range(8):
            for rounds in itertools.product((1, 2, 3), repeat=length):
                self.hold(rounds)
        for rounds in itertools.product((1, 2), repeat=11):
            self.hold(rounds)

    def test_rhythms_with_one_thing_changed(self):
        for mean in [(7, 2), (13, 5), (71, 10), (37, 17), (50, 23)]:
            row = turned(plain_rhythm(mean), 1, 31)
            self.hold(row)
            for at in range(31):
                for more in (-1, 1):
                    self.hold(row[:at] + (row[at] + more,) + row[at + 1:])

    def test_stretches_of_rhythms_are_balanced(self):
        for mean in MEANS:
            rhythm = plain_rhythm(mean)
            for phase in {0, mean[1] // 2, mean[1] - 1}:
                check(self, unbalance(turned(rhythm, phase, 300)), None)
                check(self, is_balanced(turned(rhythm, phase, 41)), True)

    def test_a_great_length(self):
        row = (3,) + (2,) * 149 + (3,) + (2,) * 149
        check(self, unbalance(row), None)
        row = (3,) + (2,) * 148 + (3,) + (2,) * 149 + (3,)
        check(self, unbalance(row), None)
        row = (3,) + (2,) * 147 + (3,) + (2,) * 149 + (3,)
        check(self, unbalance(row), (0, 149, 149))
        check(self, unbalance_plainly(row), (0, 149, 149))


class Told(unittest.TestCase):
    def plainly(self, rounds):
        """The rhythm of rounds, by all phases of the one mean that may be it."""
        above, below = sum(rounds), len(rounds)
        divisor = math.gcd(above, below)
        mean = (above // divisor, below // divisor)
        for phase in range(mean[1]):
            if turned(plain_rhythm(mean), phase, below) == rounds:
                return (mean, phase)
        return None

    def test_examples(self):
        check(self, told_rhythm(()), None)
        check(self, told_rhythm((4, 3, 3)), ((10, 3), 0))
        check(self, told_rhythm(rounds=(3, 3, 4)), ((10, 3), 1))
        check(self, told_rhythm((3, 4, 3)), ((10, 3), 2))
        check(self, told_rhythm((5,)), ((5, 1), 0))
        check(self, told_rhythm((5, 5, 5)), ((5, 1), 0))
        check(self, told_rhythm((3, 4, 3, 4)), ((7, 2), 1))
        check(self, told_rhythm((3, 4, 4, 3)), None)
        check(self, told_rhythm((3, 5)), None)
        check(self, told_rhythm((4, 3, 3, 4)), None)

    def test_all_short_ones(self):
        for length in range(1, 8):
            for rounds in itertools.product((1, 2, 3), repeat=length):
                wanted = self.plainly(rounds)
                check(self, told_rhythm(rounds), wanted)
                self.assertEqual(wanted is not None, unbalance_plainly(rounds * 2) is None)
        for rounds in itertools.product((1, 2), repeat=10):
            wanted = self.plainly(rounds)
            check(self, told_rhythm(rounds), wanted)
            self.assertEqual(wanted is not None, is_balanced(rounds * 2))

    def test_rhythms_from_all_phases(self):
        for mean in MEANS:
            rhythm = plain_rhythm(mean)
            for phase in range(0, mean[1], 1 + mean[1] // 9):
                for many in (1, 2, 3):
                    if many * mean[1] <= 300:
                        check(self, told_rhythm(turned(rhythm, phase, many * mean[1])), (mean, phase))

    def test_the_mean_may_be_greater_than_what_may_be_handed_in(self):
        check(self, told_rhythm((MOST, MOST - 1)), ((2 * MOST - 1, 2), 0))
        check(self, told_rhythm((MOST - 1, MOST) * 150), ((2 * MOST - 1, 2), 1))
        check(self, told_rhythm((MOST,) * 300), ((MOST, 1), 0))
        check(self, told_rhythm((MOST,) * 299 + (MOST - 1,)), ((300 * MOST - 1, 300), 0))

    def test_three_hundred(self):
        rhythm = plain_rhythm((487, 300))
        check(self, told_rhythm(rhythm[299:] + rhythm[:299]), ((487, 300), 299))
        check(self, told_rhythm((7,) * 300), ((7, 1), 0))
        check(self, told_rhythm((7,) * 299 + (9,)), None)


class Windows(unittest.TestCase):
    def test_examples(self):
        check(self, windows_of((10, 3), 2), ((3, 3), (3, 4), (4, 3)))
        check(self, windows_of(length=1, mean=(10, 3)), ((3,), (4,)))
        check(self, windows_of((5, 1), 3), ((5, 5, 5),))

    def test_of_nothing(self):
        for mean in MEANS:
            check(self, windows_of(mean, 0), ((),))

    def test_plainly(self):
        for mean in MEANS:
            rhythm = plain_rhythm(mean)
            for length in (1, 2, 3, 9, 10, 59, 60):
                wanted = tuple(sorted({turned(rhythm, at, length) for at in range(mean[1])}))
                check(self, windows_of(mean, length), wanted)
                self.assertEqual(len(wanted), min(length + 1, mean[1]))


class Parents(unittest.TestCase):
    def test_examples(self):
        check(self, parents_of((10, 3)), ((3, 1), (7, 2)))
        check(self, parents_of(mean=(7, 2)), ((3, 1), (4, 1)))
        check(self, parents_of((3, 2)), ((1, 1), (2, 1)))
        for whole in [(1, 1), (5, 1), (MOST, 1)]:
            check(self, parents_of(whole), None)

    def test_facts(self):
        for mean in MEANS:
            if mean[1] > 1:
                low, high = parents_of(mean)
                self.assertIs(need_mean(low), low)
                self.assertIs(need_mean(high), high)
                check(self, (low[0] + high[0], low[1] + high[1]), mean)
                check(self, high[0] * low[1] - low[0] * high[1], 1)
                self.assertTrue(number(low) < number(mean) < number(high))
                check(self, plain_rhythm(high) + plain_rhythm(low), rhythm_of(mean))

    def test_they_are_the_nearest_with_lesser_q(self):
        for mean in means_up_to(12, 1, 3):
            if mean[1] > 1:
                low, high = parents_of(mean)
                lesser = [number(one) for one in means_up_to(mean[1] - 1, 1, 3)]
                self.assertEqual(number(low), max(one for one in lesser if one < number(mean)))
                self.assertEqual(number(high), min(one for one in lesser if one > number(mean)))


if __name__ == "__main__":
    unittest.main()
