"""Promises 40 to 43: rounds that were seen."""

import itertools
import random
import unittest
from fractions import Fraction
from unittest.mock import Mock

from sawrounds.errors import NoHeight
from sawrounds.rhythms import windows_of
from sawrounds.seen import heights_seen, is_seen, is_seen_paper, means_seen, need_seen, next_seen, spots_seen
from sawrounds.spots import spots_after
from sawrounds.stretches import high_end, low_end
from tests.support import (
    MOST, NO_HEIGHTS, NO_INTEGERS, NO_PARTS, TOO_GREAT, Odd, check, check_error, check_refusals, height_for,
    means_up_to, number, pair, plain_ends, plain_rhythm, plain_rounds, refused, turned, wrong_rounds,
)

HALF = (1, 2)
PARTS = [(1, 2), (2, 3), (1, 10), (9, 10), (1, 1000), (999, 1000)]
WRONGS = {
    "part": refused(NO_PARTS),
    "height": refused(NO_HEIGHTS),
    "rounds": wrong_rounds(60) + [((), wrong_rounds()[0][1], ())],
}
OF_ROUNDS = (need_seen, means_seen, next_seen)


def plain_sums(rounds, length):
    """The sums of all stretches of so many things."""
    return [sum(rounds[at:at + length]) for at in range(len(rounds) - length + 1)]


def plain_paper(rounds):
    """The first two stretches whose sums are two apart or more, None for none."""
    for length in range(1, len(rounds) + 1):
        sums = plain_sums(rounds, length)
        for i, j in itertools.combinations(range(len(sums)), 2):
            if abs(sums[i] - sums[j]) >= 2:
                return (i, j, length)
    return None


def plain_means(rounds):
    """BELOW and ABOVE by their words, over all stretches."""
    both = [(total, length) for length in range(1, len(rounds) + 1) for total in plain_sums(rounds, length)]
    return max(Fraction(total - 1, length) for total, length in both), min(
        Fraction(total + 1, length) for total, length in both
    )


def plain_spots(part, height, rounds):
    """The spots with these rounds behind them, from the last round backwards."""
    low, high = Fraction(0), Fraction(1)
    for ticks in reversed(rounds):
        low = max(Fraction(0), (low + number(height) - ticks) / number(part))
        high = min(Fraction(1), (high + number(height) - ticks) / number(part))
    return (pair(low), pair(high)) if low < high else None


def rounds_tried():
    """Rounds of all kinds: all small ones, stretches of rhythms, one thing exchanged."""
    found = []
    for length in range(1, 6):
        found += itertools.product(range(1, 4), repeat=length)
    chance = random.Random(7)
    for mean in means_up_to(5) + [(7, 2), (10, 3), (13, 8), (101, 60), (299, 150), (MOST, 7), (MOST // 2 + 1, 1)]:
        things = plain_rhythm(mean)
        for length in (1, 2, 3, 5, 8, 13, 20):
            row = turned(things, chance.randrange(len(things)), length)
            found.append(row)
            at = chance.randrange(length)
            found.append(row[:at] + (max(1, row[at] + chance.choice([-2, -1, 1, 2])),) + row[at + 1:])
    return [row for row in found if max(row) <= MOST]


TRIED = rounds_tried()


class Refused(unittest.TestCase):
    def test_in_order(self):
        for function in OF_ROUNDS:
            check_refusals(self, function, {"rounds": (3, 4)}, WRONGS)
        check_refusals(self, heights_seen, {"part": HALF, "rounds": (3, 4)}, WRONGS)
        for function in (is_seen, spots_seen):
            check_refusals(self, function, {"part": HALF, "height": (10, 3), "rounds": (3, 4)}, WRONGS)
        check_refusals(self, is_seen_paper, {"rounds": (3, 4), "value": None}, WRONGS | {"value": []})

    def test_lengths(self):
        for many in (1, 2, 59, 60):
            rounds = (3,) * many
            self.assertIs(need_seen(rounds), rounds)
            self.assertIs(need_seen(rounds=rounds), rounds)
        check(self, need_seen((MOST, 1)), (MOST, 1))

    def test_a_part_is_asked_ahead_of_the_height_from_it_on(self):
        kind = refused([None])[0][1]
        check_error(self, kind, (1, 3), is_seen, HALF, (1, 3), None)
        is_seen((1, 4), (1, 3), (1,))

    def test_no_height_comes_last(self):
        for rounds, paper in [((3, 5), (0, 1, 1)), ((3, 4, 4, 3, 3), (1, 3, 2))]:
            check_error(self, NoHeight, paper, means_seen, rounds)
            check_error(self, NoHeight, paper, means_seen, rounds=rounds)
            for part in PARTS:
                check_error(self, NoHeight, paper, heights_seen, part, rounds)
                check_error(self, NoHeight, paper, heights_seen, rounds=rounds, part=part)
        wrong = (2, 2)
        check_error(self, refused([wrong])[0][1], wrong, heights_seen, wrong, (3, 5))


class Means(unittest.TestCase):
    def test_examples(self):
        check(self, means_seen((3, 4)), ((3, 1), (4, 1)))
        check(self, means_seen((3,)), ((2, 1), (4, 1)))
        check(self, means_seen(rounds=(1,)), ((0, 1), (2, 1)))
        check(self, means_seen((1, 1)), ((1, 2), (3, 2)))
        check(self, means_seen((3, 4, 4)), ((7, 2), (4, 1)))
        check(self, means_seen((1,) * 60), ((59, 60), (61, 60)))
        check(self, means_seen((MOST,)), ((MOST - 1, 1), (MOST + 1, 1)))

    def test_plainly(self):
        seen = 0
        for rounds in TRIED:
            below, above = plain_means(rounds)
            paper = plain_paper(rounds)
            self.assertEqual(paper is None, below < above)
            if paper is None:
                seen += 1
                check(self, means_seen(rounds), (pair(below), pair(above)))
            else:
                check_error(self, NoHeight, paper, means_seen, rounds)
        self.assertGreater(seen, 150)
        self.assertGreater(len(TRIED) - seen, 150)

    def test_sixty(self):
        for mean in [(101, 60), (103, 61), (7, 2), (577, 300), (13, 8)]:
            rounds = turned(plain_rhythm(mean), 0, 60)
            below, above = plain_means(rounds)
            check(self, means_seen(rounds), (pair(below), pair(above)))
            self.assertTrue(below < number(mean) < above)
            wrong = rounds[:59] + (rounds[59] + 1,)
            if plain_paper(wrong) is not None:
                check_error(self, NoHeight, plain_paper(wrong), means_seen, wrong)


class Heights(unittest.TestCase):
    def test_examples(self):
        check(self, heights_seen(HALF, (3, 4)), ((3, 1), (7, 2)))
        check(self, heights_seen(HALF, (3,)), ((2, 1), (7, 2)))
        check(self, heights_seen(rounds=(1,), part=HALF), (HALF, (3, 2)))
        check(self, heights_seen((2, 3), (1, 1)), ((2, 3), low_end((2, 3), (3, 2))))
        check(self, heights_seen(HALF, (2,)), ((1, 1), (5, 2)))
        check(self, heights_seen(HALF, (3, 4, 4)), (high_end(HALF, (7, 2)), (7, 2)))

    def test_ends_of_stretches(self):
        for rounds in TRIED[::3]:
            for part in PARTS[:4]:
                paper = plain_paper(rounds)
                if paper is not None:
                    check_error(self, NoHeight, paper, heights_seen, part, rounds)
                else:
                    below, above = map(pair, plain_means(rounds))
                    low = number(part) if below[0] < below[1] else plain_ends(part, below)[1]
                    check(self, heights_seen(part, rounds), (pair(low), pair(plain_ends(part, above)[0])))

    def test_just_between_them(self):
        for rounds in TRIED[::5]:
            if plain_paper(rounds) is None and max(rounds) < 100:
                for part in PARTS:
                    low, high = map(number, heights_seen(part, rounds))
                    tiny = (high - low) / 10 ** 4
                    ones = set(rounds) == {1}
                    for height, wanted in [
                        (low, ones), (high, False), (low + tiny, True), (high - tiny, True), ((low + high) / 2, True),
                        (low - tiny, False), (high + tiny, False), (high + 1, False), (number(part), ones),
                    ]:
                        if height >= number(part) and max(pair(height)) <= MOST:
                            check(self, is_seen(part, pair(height), rounds), wanted)

    def test_great_rounds(self):
        for rounds in [(MOST,), (MOST, MOST), (MOST - 1, MOST), (MOST, MOST - 1, MOST)]:
            below, above = map(pair, plain_means(rounds))
            check(self, means_seen(rounds), (below, above))
            for part in PARTS[:4]:
                low, high = plain_ends(part, below)[1], plain_ends(part, above)[0]
                check(self, heights_seen(part, rounds), (pair(low), pair(high)))
        check(self, is_seen(HALF, (MOST, 1), (MOST,)), True)
        check(self, is_seen(HALF, (MOST - 1, 1), (MOST,)), False)
        check(self, is_seen(HALF, (MOST, 1), (MOST - 1,)), False)


class Seen(unittest.TestCase):
    def test_by_the_rhythm(self):
        for part in PARTS:
            for mean in means_up_to(4) + [(7, 2), (10, 3)]:
                low, high = plain_ends(part, mean)
                for height in (low, high, (low + high) / 2):
                    if max(pair(height)) <= MOST:
                        for length in (1, 2, 3, 4):
                            windows = windows_of(mean, length)
                            for rounds in itertools.product(range(1, 5), repeat=length):
                                check(self, is_seen(part, pair(height), rounds), rounds in windows)

    def test_means_with_a_great_q(self):
        for part, height in TOO_GREAT:
            rounds, _ = plain_rounds(part, height, (1, 3), 30)
            check(self, is_seen(part, height, rounds), True)
            low, high = spots_seen(part, height, rounds)
            self.assertTrue(number(low) < Fraction(1, 3) <= number(high))
            check(self, is_seen(height=height, rounds=(rounds[0] + 3,), part=part), False)

    def test_unbalanced_ones_are_seen_nowhere(self):
        for rounds in TRIED:
            if plain_paper(rounds) is not None and max(rounds) < 10:
                for part in PARTS[:2]:
                    for height in [(1, 1), (3, 2), (2, 1), (7, 3), (10, 3), number_of(rounds)]:
                        check(self, is_seen(part, height, rounds), False)
                        check(self, spots_seen(part, height, rounds), None)


def number_of(rounds):
    """The mean of rounds as a height."""
    return pair(Fraction(sum(rounds), len(rounds)))


class Spots(unittest.TestCase):
    def test_examples(self):
        # At the HEIGHT 10/3 the arcs are those of 4, 3, .. up to 2/3, then of 3, 4, ..
        check(self, spots_seen(HALF, (10, 3), (3,)), ((2, 3), (1, 1)))
        check(self, spots_seen(HALF, (10, 3), (4,)), ((0, 1), (2, 3)))
        check(self, spots_seen(rounds=(3, 4), height=(10, 3), part=HALF), ((2, 3), (1, 1)))
        check(self, spots_seen(HALF, (10, 3), (3, 3)), None)
        check(self, spots_seen(HALF, (10, 3), (5,)), None)
        check(self, spots_seen(HALF, (5, 1), (5,) * 60), ((0, 1), (1, 1)))
        check(self, spots_seen(HALF, HALF, (1,) * 60), ((0, 1), (1, 1)))

    def test_plainly(self):
        seen = 0
        for rounds in TRIED:
            if max(rounds) < 100:
                for part in PARTS[:4]:
                    for height in [(1, 1), (9, 10), (3, 2), (10, 3), (2, 1), number_of(rounds), height_for(part, (8, 5))]:
                        if number(height) >= number(part):
                            wanted = plain_spots(part, height, rounds)
                            seen += wanted is not None
                            check(self, spots_seen(part, height, rounds), wanted)
                            check(self, is_seen(part, height, rounds), wanted is not None)
        self.assertGreater(seen, 500)

    def test_just_these_spots(self):
        for part in PARTS[:4]:
            for mean in [(3, 2), (7, 2), (8, 5), (10, 3)]:
                height = height_for(part, mean)
                for length in (1, 2, 3, 5):
                    for rounds in windows_of(mean, length):
                        low, high = map(number, spots_seen(part, height, rounds))
                        tiny = (high - low) / 10 ** 6
                        for spot, wanted in [
                            (low, False), (low + tiny, True), (high, True), (high - tiny, True), (high + tiny, False),
                        ]:
                            if 0 < spot <= 1 and max(pair(spot)) <= MOST:
                                got = spots_after(part, height, pair(spot), length)[0] == rounds
                                self.assertEqual(got, wanted)

    def test_all_spots_together(self):
        for part in PARTS:
            for mean in [(1, 1), (3, 2), (7, 2), (8, 5), (13, 8)]:
                height = height_for(part, mean)
                for length in (1, 2, 4, 7):
                    rows = sorted([tuple(map(number, spots_seen(part, height, row))) for row in windows_of(mean, length)])
                    self.assertEqual([low for low, _ in rows], [0] + [high for _, high in rows[:-1]])
                    self.assertEqual(rows[-1][1], 1)

    def test_sixty_rounds_at_a_great_height(self):
        height = (MOST, 7)
        rounds, _ = plain_rounds((2, 3), height, (1, 3), 60)
        check(self, spots_seen((2, 3), height, rounds), plain_spots((2, 3), height, rounds))
        self.assertIsNotNone(spots_seen((2, 3), height, rounds))


class Papers(unittest.TestCase):
    def test_any_two_stretches(self):
        for rounds in TRIED[::7]:
            if len(rounds) < 9:
                for value in itertools.product(range(-1, len(rounds) + 2), repeat=3):
                    first, second, length = value
                    wanted = 0 <= first < second and length >= 1 and second + length <= len(rounds)
                    if wanted:
                        one, other = rounds[first:first + length], rounds[second:second + length]
                        wanted = abs(sum(one) - sum(other)) >= 2
                    check(self, is_seen_paper(rounds, value), wanted)

    def test_examples(self):
        rounds = (3, 4, 4, 3, 3)
        check(self, is_seen_paper(rounds, (1, 3, 2)), True)
        check(self, is_seen_paper(value=(1, 3, 2), rounds=rounds), True)
        check(self, is_seen_paper(rounds, (3, 1, 2)), False)
        check(self, is_seen_paper(rounds, (0, 3, 2)), False)
        # They may overlap: 1 + 5 and 5 + 5.
        check(self, is_seen_paper((1, 5, 5), (0, 1, 2)), True)
        check(self, is_seen_paper((1, 5, 5), (0, 1, 1)), True)
        check(self, is_seen_paper((1, 5, 5), (0, 2, 1)), True)
        check(self, is_seen_paper((1, 5, 5), (1, 2, 1)), False)
        check(self, is_seen_paper((1, 5, 5), (0, 2, 2)), False)
        check(self, is_seen_paper((1, 5, 5), (0, 1, 3)), False)
        check(self, is_seen_paper((5, 1), (0, 1, 1)), True)
        check(self, is_seen_paper((1, 2), (0, 1, 1)), False)

    def test_the_papers_raised(self):
        for rounds in TRIED:
            paper = plain_paper(rounds)
            if paper is not None:
                check(self, is_seen_paper(rounds, paper), True)

    def test_any_value(self):
        rounds = (1, 5, 5)
        values = NO_INTEGERS + [
            0, 1, (0, 1), (0, 1, 1, 1), [0, 1, 1], ((0, 1, 1),), (False, 1, 1), (0, True, 1), (0, 1, True), (0, 1, 1.0),
            (0.0, 1, 1), (None, 1, 1), (0, None, 1), (0, 1, None), ("0", 1, 1), (0, 1, 10 ** 5000), (0, 10 ** 5000, 1),
            (-(10 ** 5000), 1, 1), (0, 1, -1), (-3, 1, 1), (-3, -2, 1), (0, -2, 1), (0, -1, 1), (Odd(), 1, 1),
            (0, 1, Odd()), (0, Odd(), 1), Mock(spec=tuple), iter((0, 1, 1)), range(3), "011", (0, 1, 0), (0, 3, 0),
        ]
        for value in values:
            check(self, is_seen_paper(rounds, value), False)


class Next(unittest.TestCase):
    def test_examples(self):
        check(self, next_seen((3,)), (2, 3, 4))
        check(self, next_seen((3, 4, 4)), (3, 4))
        check(self, next_seen(rounds=(1,)), (1, 2))
        check(self, next_seen((2,)), (1, 2, 3))
        check(self, next_seen((1, 1, 1)), (1, 2))
        check(self, next_seen((2,) * 60), (1, 2, 3))
        check(self, next_seen((3, 5)), ())
        check(self, next_seen((3, 4, 4, 3, 3)), ())
        check(self, next_seen((MOST,)), (MOST - 1, MOST, MOST + 1))
        check(self, next_seen((MOST - 1, MOST)), (MOST - 1, MOST))
        check(self, next_seen((1, 2, 1)), (1, 2))
        check(self, next_seen((1, 2, 2, 1)), (2,))

    def test_plainly(self):
        seen = set()
        for rounds in TRIED:
            if plain_paper(rounds) is None:
                wanted = tuple(
                    ticks for ticks in range(max(1, min(rounds) - 2), max(rounds) + 4)
                    if plain_paper(rounds + (ticks,)) is None
                )
                check(self, next_seen(rounds), wanted)
                seen.add(len(wanted))
                if len(set(rounds)) == 1:
                    least = max(1, rounds[0] - 1)
                    self.assertEqual(wanted, tuple(range(least, rounds[0] + 2)))
                else:
                    self.assertIn(len(wanted), (1, 2))
            else:
                check(self, next_seen(rounds), ())
        self.assertEqual(seen, {1, 2, 3})

    def test_sixty(self):
        for mean in [(101, 60), (103, 61), (7, 2), (577, 300)]:
            things = plain_rhythm(mean)
            for phase in (0, 1):
                got = next_seen(turned(things, phase, 60))
                self.assertIn(turned(things, phase, 61)[60], got)
                self.assertTrue(1 <= len(got) <= 2)


if __name__ == "__main__":
    unittest.main()
