"""Promises 4, 16, 17 and 18: spots, and the rounds between them."""

import unittest
from fractions import Fraction

from sawrounds.spots import counts_after, later, need_spot, next_spot, spots_after
from tests.support import (
    MOST, NO_HEIGHTS, NO_PARTS, NO_SPOTS, check, check_refused, check_refusals, no_numbers, number, pair,
    plain_rounds, refused,
)

HALF = (1, 2)
PARTS = [(1, 2), (2, 3), (1, 10), (9, 10), (1, 1000), (999, 1000), (501, 1000)]
MORES = [(0, 1), (1, 10 ** 9), (1, 3), (1, 2), (9, 10), (1, 1), (17, 6), (99, 7)]
SPOTS = [(1, 1), (1, 2), (1, 3), (2, 3), (999, 1000), (1, MOST), (MOST - 1, MOST), (1, 7), (89, 100)]

WRONGS = {
    "part": refused(NO_PARTS),
    "height": refused(NO_HEIGHTS),
    "spot": refused(NO_SPOTS),
    "other": refused(NO_SPOTS),
    "count": refused(no_numbers(0, 1000)),
}
RIGHTS = {"part": HALF, "height": (10, 3), "spot": (1, 1)}


def heights_at(part):
    """HEIGHTs from just the PART on, whole ones among them."""
    found = [number(part) + number(more) for more in MORES]
    return [pair(one) for one in found] + [(1, 1), (2, 1), (5, 1), (10 ** 12, 1), (10 ** 12 + 1, 3)]


def cases():
    """All parts, heights and spots that are tried."""
    for part in PARTS:
        for height in heights_at(part):
            for spot in SPOTS:
                yield part, height, spot


def is_lowest(told):
    """Whether told is a pair in lowest terms, however great."""
    return type(told) is tuple and pair(number(told)) == told


def next_plainly(part, height, spot):
    """The next round and spot by the words of the promise."""
    rounds, spots = plain_rounds(part, height, spot, 1)
    return (rounds[0], pair(spots[1]))


class Needed(unittest.TestCase):
    def test_spots_come_back(self):
        for spot in SPOTS:
            self.assertIs(need_spot(spot), spot)
        self.assertIs(need_spot(spot=HALF), HALF)

    def test_anything_else_is_refused(self):
        for wrong in NO_SPOTS:
            check_refused(self, wrong, need_spot, wrong)
            check_refused(self, wrong, need_spot, spot=wrong)

    def test_the_ends(self):
        for wrong in [(0, 1), (MOST, MOST - 1), (2, 1), (-1, MOST)]:
            check_refused(self, wrong, need_spot, wrong)


class Refused(unittest.TestCase):
    def test_next_spot(self):
        check_refusals(self, next_spot, RIGHTS, WRONGS)

    def test_those_with_a_count(self):
        for function in (spots_after, counts_after):
            check_refusals(self, function, RIGHTS | {"count": 3}, WRONGS)

    def test_later(self):
        check_refusals(self, later, RIGHTS | {"other": (1, 3), "count": 3}, WRONGS)

    def test_the_height_hangs_on_the_part(self):
        for part in PARTS:
            just = next_spot(part, part, (1, 1))
            check(self, just, (1, (1, 1)))
            wrong = pair(number(part) - Fraction(1, 10 ** 20))
            check_refused(self, wrong, next_spot, part, wrong, (1, 1))
            check_refused(self, wrong, spots_after, part, wrong, (1, 1), 1)
            check_refused(self, wrong, counts_after, part, wrong, (1, 1), 1)
            check_refused(self, wrong, later, part, wrong, (1, 1), (1, 1), 1)

    def test_like_what_was_let_but_not_it(self):
        check(self, spots_after((1, 2), (1, 1), (1, 1), 1), ((1,), ((1, 2),)))
        for at, wrong in enumerate([(True, 2), (1, True), (True, 1), True]):
            given = [(1, 2), (1, 1), (1, 1), 1]
            given[at] = wrong
            check_refused(self, wrong, spots_after, *given)


class NextSpot(unittest.TestCase):
    def test_examples(self):
        check(self, next_spot(HALF, (10, 3), (1, 1)), (3, (1, 6)))
        check(self, next_spot(HALF, (10, 3), (1, 6)), (4, (3, 4)))
        check(self, next_spot(spot=(1, 1), part=HALF, height=(5, 1)), (5, (1, 2)))

    def test_the_rule(self):
        for part, height, spot in cases():
            ticks, then = next_spot(part, height, spot)
            self.assertIs(type(ticks), int)
            self.assertTrue(is_lowest(then))
            check(self, then, pair(number(part) * number(spot) - number(height) + ticks))
            self.assertTrue(0 < number(then) <= 1)
            self.assertGreaterEqual(ticks, 1)

    def test_whole_ones_lead_to_one_and_not_to_nought(self):
        # 1/2 times 1, less 7/2, and 3, is 0, which is no spot.
        check(self, next_spot(HALF, (7, 2), (1, 1)), (4, (1, 1)))
        check(self, next_spot(HALF, (1, 2), (1, 1)), (1, (1, 1)))
        check(self, next_spot((2, 3), (8, 3), (1, 1)), (3, (1, 1)))
        check(self, next_spot(HALF, (7, 2), (MOST - 1, MOST)), (4, (2 * MOST - 1, 2 * MOST)))

    def test_great_heights(self):
        check(self, next_spot(HALF, (MOST, 1), (1, 1)), (MOST, (1, 2)))
        check(self, next_spot(HALF, (MOST, 1), (1, MOST)), (MOST, (1, 2 * MOST)))
        high = ((999, 1000), (MOST - 1, MOST), (1, 1))
        check(self, next_spot(*high), next_plainly(*high))


class SpotsAfter(unittest.TestCase):
    def test_none(self):
        check(self, spots_after(HALF, (10, 3), (1, 1), 0), ((), ()))
        check(self, counts_after(HALF, (10, 3), (1, 1), 0), (0,))
        check(self, later(HALF, (10, 3), (1, 1), (1, 2), 0), 0)

    def test_examples(self):
        check(self, counts_after(HALF, (10, 3), (1, 1), 3), (0, 3, 7, 10))
        check(self, spots_after(HALF, (10, 3), (1, 1), 2), ((3, 4), ((1, 6), (3, 4))))
        check(self, spots_after(HALF, (5, 1), (1, 1), 3), ((5, 5, 5), ((1, 2), (1, 4), (1, 8))))
        check(self, spots_after(count=1, spot=(1, 6), height=(10, 3), part=HALF), ((4,), ((3, 4),)))
        check(self, counts_after(count=1, spot=(1, 6), height=(10, 3), part=HALF), (0, 4))

    def test_plainly(self):
        for part, height, spot in cases():
            rounds, spots = plain_rounds(part, height, spot, 25)
            check(self, spots_after(part, height, spot, 25), (rounds, tuple(pair(one) for one in spots[1:])))
            counts = tuple(sum(rounds[:at]) for at in range(26))
            check(self, counts_after(part, height, spot, 25), counts)
            check(self, spots_after(part, height, spot, 1), (rounds[:1], (pair(spots[1]),)))

    def test_step_by_step(self):
        for part, height, spot in list(cases())[::7]:
            rounds, spots = spots_after(part, height, spot, 30)
            now = spot
            for ticks, then in zip(rounds, spots):
                if max(now) > MOST:
                    break
                check(self, next_spot(part, height, now), (ticks, then))
                now = then

    def test_a_thousand(self):
        for part, height, spot in [
            (HALF, (10, 3), (1, 1)), ((999, 1000), (10 ** 29, 10 ** 29 - 1), (1, MOST)),
            ((1, 1000), (17, 7), (MOST - 1, MOST)),
        ]:
            rounds, spots = plain_rounds(part, height, spot, 1000)
            got = spots_after(part, height, spot, 1000)
            check(self, got, (rounds, tuple(pair(one) for one in spots[1:])))
            self.assertEqual((len(got[0]), len(got[1])), (1000, 1000))
            check(self, counts_after(part, height, spot, 1000), tuple(sum(rounds[:at]) for at in range(1001)))
            check(self, counts_after(part, height, spot, 999), tuple(sum(rounds[:at]) for at in range(1000)))

    def test_the_same_call_gives_the_same(self):
        for _ in range(2):
            check(self, spots_after(HALF, (10, 3), (1, 1), 2), ((3, 4), ((1, 6), (3, 4))))


class Later(unittest.TestCase):
    def test_by_counts(self):
        for part in PARTS:
            for height in heights_at(part):
                for spot in SPOTS[::2]:
                    for other in SPOTS[1::2] + [spot]:
                        for count in (0, 1, 2, 13):
                            more = counts_after(part, height, spot, count)[-1]
                            less = counts_after(part, height, other, count)[-1]
                            check(self, later(part, height, spot, other, count), more - less)

    def test_all_three_answers(self):
        check(self, later(HALF, (10, 3), (1, 6), (1, 1), 1), 1)
        check(self, later(HALF, (10, 3), (1, 1), (1, 6), 1), -1)
        check(self, later(HALF, (10, 3), (1, 1), (1, 1), 1), 0)
        check(self, later(count=1, other=(1, 1), spot=(1, 6), height=(10, 3), part=HALF), 1)

    def test_far(self):
        check(self, later(HALF, (10, 3), (1, 6), (1, 1), 1000), 0)
        check(self, later(HALF, (10, 3), (1, 6), (1, 1), 999), 1)


class Order(unittest.TestCase):
    SOME = sorted((number(spot) for spot in SPOTS + [(1, 4), (3, 4), (2, 5)]))

    def test_a_greater_spot_needs_as_many_or_one_fewer(self):
        for part in PARTS:
            for height in heights_at(part):
                for less, more in zip(self.SOME, self.SOME[1:]):
                    for count in (0, 1, 2, 5, 20):
                        self.assertIn(later(part, height, pair(less), pair(more), count), (0, 1))
                        self.assertIn(later(part, height, pair(more), pair(less), count), (0, -1))

    def test_which_is_greater_then(self):
        seen = set()
        for part in PARTS:
            x = number(part)
            for height in heights_at(part):
                for less in self.SOME:
                    for more in self.SOME:
                        if less < more:
                            for count in (1, 2, 6):
                                seen.add(self.hold(part, height, less, more, count, x ** count))
        self.assertEqual(len(seen), 3)

    def hold(self, part, height, less, more, count, share):
        """Holds the spots of two against one another; tells which case it was."""
        of_less = spots_after(part, height, pair(less), count)
        of_more = spots_after(part, height, pair(more), count)
        apart = number(of_more[1][-1]) - number(of_less[1][-1])
        fewer = sum(of_less[0]) - sum(of_more[0])
        if fewer == 1:
            self.assertLess(apart, 0)
            return "fewer"
        self.assertEqual(fewer, 0)
        self.assertGreaterEqual(apart, share * (more - less))
        self.assertEqual(apart == share * (more - less), of_more[0] == of_less[0])
        return "same" if of_more[0] == of_less[0] else "as many"

    def test_a_greater_height_or_a_less_part_needs_no_fewer(self):
        for part in PARTS:
            heights = sorted(heights_at(part), key=number)
            for spot in SPOTS:
                for low, high in zip(heights, heights[1:]):
                    least = counts_after(part, low, spot, 15)
                    most = counts_after(part, high, spot, 15)
                    self.assertTrue(all(one <= other for one, other in zip(least, most)))
        ordered = sorted(PARTS, key=number)
        for height in [(1, 1), (3, 2), (7, 3), (99, 7)]:
            for spot in SPOTS:
                for low, high in zip(ordered, ordered[1:]):
                    most = counts_after(low, height, spot, 15)
                    least = counts_after(high, height, spot, 15)
                    self.assertTrue(all(one <= other for one, other in zip(least, most)))


if __name__ == "__main__":
    unittest.main()
