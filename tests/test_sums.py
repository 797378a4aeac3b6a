import inspect
import unittest
from fractions import Fraction
from functools import lru_cache
from math import gcd

from heightfractions import sums as sums_file
from heightfractions.errors import TooFar, TooMany
from heightfractions.sums import moments, sum_listed, sum_stepped
from heightfractions.ways import ways_counted, ways_listed
from heightfractions.weights import weight_of, weights_of

LEVELS = [(1, 2), (-3, 1), (5, 7), (2, 3), (-1, 12), (999998, 11), (4, 1), (7, 5)]
DOWNS = [(2, 1), (-1, 3), (7, 4), (11, 1), (13, 6), (-5, 9), (999997, 12)]
MIXED = [weights_of(LEVELS[:k + 1], DOWNS[:k]) for k in range(8)]
ONES = [weights_of([(1, 1)] * (k + 1), [(1, 1)] * k) for k in range(8)]
NOUGHTS = [weights_of([(0, 1)] * (k + 1), [(0, 1)] * k) for k in range(8)]
HOLED = weights_of([(0, 1), (3, 1), (0, 1), (-1, 2)], [(2, 1), (0, 1), (5, 1)])
ORDERS = [weights_of([(2 * h + 1, 1) for h in range(k + 1)], [(h * h, 1) for h in range(1, k + 1)]) for k in range(8)]
SETS = [weights_of([(h + 1, 1) for h in range(k + 1)], [(h, 1) for h in range(1, k + 1)]) for k in range(8)]
PAIRINGS = [weights_of([(0, 1)] * (k + 1), [(h, 1) for h in range(1, k + 1)]) for k in range(8)]
BOTH = (sum_listed, sum_stepped)


def summed(weights, length, first, last, below):
    """The weights of the ways listed, summed up."""
    total = Fraction(0)
    for way in ways_listed(length, first, last, below):
        total += Fraction(*weight_of(weights, way, first))
    return total


@lru_cache(maxsize=None)
def gone(weights, left, height, last, below):
    """The sum of the weights of ways with so many steps left, told by the first of them."""
    if height < 0 or below is not None and height >= below:
        return Fraction(0)
    if left == 0:
        return Fraction(1 if height == last else 0)
    if last - height > left or height - last > left:
        return Fraction(0)
    up = gone(weights, left - 1, height + 1, last, below)
    level = gone(weights, left - 1, height, last, below)
    down = gone(weights, left - 1, height - 1, last, below)
    # Where there is no weight nothing may be left to weigh, or Python complains.
    if level:
        level *= Fraction(*weights[0][height])
    if down:
        down *= Fraction(*weights[1][height - 1])
    return up + level + down


class SumsCase(unittest.TestCase):
    def assert_fraction(self, answer, expected, words=None):
        self.assertIs(type(answer), tuple, words)
        self.assertEqual([type(number) for number in answer], [int, int], words)
        self.assertTrue(answer[1] >= 1 and gcd(*answer) == 1, words)
        self.assertEqual(Fraction(*answer), expected, words)

    def assert_refused(self, refusal, asked, *handed):
        with self.subTest(asked=asked.__name__, handed=repr(handed[1:])), self.assertRaises(refusal) as taken:
            asked(*handed)
        self.assertIs(type(taken.exception), refusal)


class SumTest(SumsCase):
    def test_names_arguments_and_what_may_be_left_out(self):
        for name, arguments in (
            ("sum_listed", "(weights, length, first=0, last=0, below=None)"),
            ("sum_stepped", "(weights, length, first=0, last=0, below=None)"),
            ("moments", "(weights)"),
        ):
            self.assertEqual(str(inspect.signature(getattr(sums_file, name))), arguments)

    def test_by_hand(self):
        for asked in BOTH:
            self.assertEqual(asked(MIXED[1], 2), (9, 4))
            self.assertEqual(asked(MIXED[1], 2, 0, 0), (9, 4))
            self.assertEqual(asked(MIXED[1], 2, 0, 0, 1), (1, 4))
            self.assertEqual(asked(MIXED[1], 2, 0, 1), (-5, 2))
            self.assertEqual(asked(MIXED[1], 2, 1, 0), (-5, 1))
            self.assertEqual(asked(MIXED[2], 2, 1, 1), (32, 3))
            self.assertEqual(asked(MIXED[2], 2, 1, 1, 2), (11, 1))
            self.assertEqual(asked(MIXED[2], 1, 2, 2), (5, 7))

    def test_the_length_0(self):
        for weights in MIXED + NOUGHTS:
            k = len(weights[1])
            for asked in BOTH:
                for first in range(k + 1):
                    self.assertEqual(asked(weights, 0, first, first), (1, 1))
                    self.assertEqual(asked(weights, 0, first, first, first + 1), (1, 1))
                    self.assertEqual(asked(weights, 0, first, first, first), (0, 1))
                    self.assertEqual(asked(weights, 0, first, k - first), (1 if first == k - first else 0, 1))

    def test_both_alike_and_alike_to_the_ways_listed_or_refused(self):
        for weights in MIXED[:6] + [HOLED, ONES[3], NOUGHTS[2]]:
            k = len(weights[1])
            for length in range(9):
                for first in range(k + 1):
                    for last in range(k + 1):
                        for below in [None] + list(range(k + 4)):
                            self.look_at(weights, length, first, last, below)

    def look_at(self, weights, length, first, last, below):
        handed = (weights, length, first, last, below)
        k = len(weights[1])
        if length + first + last > 2 * k + 1 and (below is None or below > k + 1):
            for asked in BOTH:
                self.assert_refused(TooFar, asked, *handed)
        elif ways_counted(length, first, last, below) > 400:
            self.assert_refused(TooMany, sum_listed, *handed)
            self.assert_fraction(sum_stepped(*handed), gone(*handed), handed[1:])
        else:
            expected = summed(*handed)
            self.assert_fraction(sum_listed(*handed), expected, handed[1:])
            self.assert_fraction(sum_stepped(*handed), expected, handed[1:])

    def test_long_ways_that_are_kept_low(self):
        for weights in (MIXED[0], MIXED[1], MIXED[2], MIXED[7]):
            k = len(weights[1])
            for length in (9, 14, 15):
                for first in range(k + 1):
                    for last in range(k + 1):
                        for below in (1, 2):
                            if below <= k + 1 and ways_counted(length, first, last, below) <= 400:
                                self.look_at(weights, length, first, last, below)
        self.assertEqual(sum_stepped(ONES[1], 15, 0, 0, 2), (2 ** 14, 1))
        self.assertEqual(sum_stepped(MIXED[0], 15, 0, 0, 1), (1, 2 ** 15))
        self.assertEqual(sum_listed(MIXED[0], 15, 0, 0, 1), (1, 2 ** 15))

    def test_stepped_where_there_are_too_many_to_list(self):
        for handed in (
            (MIXED[7], 11, 2, 2, None), (MIXED[5], 11, 0, 0, None), (MIXED[7], 9, 3, 3, 5),
            (MIXED[4], 10, 4, 0, 5), (MIXED[3], 11, 1, 2, 3), (HOLED, 10, 3, 1, 4),
        ):
            self.assert_refused(TooMany, sum_listed, *handed)
            self.assert_fraction(sum_stepped(*handed), gone(*handed), handed[1:])

    def test_sums_of_ones_count_ways(self):
        for length in range(16):
            for below in range(9):
                self.assertEqual(sum_stepped(ONES[7], length, 0, 0, below), (ways_counted(length, 0, 0, below), 1))
            self.assertEqual(sum_stepped(ONES[7], length), (ways_counted(length), 1))

    def test_below_not_greater_than_both_heights(self):
        for asked in BOTH:
            for below in range(3):
                self.assertEqual(asked(MIXED[2], 15, 2, 0, below), (0, 1))
                self.assertEqual(asked(MIXED[2], 15, 0, 2, below), (0, 1))
            self.assertEqual(asked(MIXED[0], 15, 0, 0, 0), (0, 1))


class TooFarTest(SumsCase):
    def test_just_beyond_and_not_at_it(self):
        for weights in MIXED:
            k = len(weights[1])
            for first in range(k + 1):
                for last in range(k + 1):
                    length = 2 * k + 1 - first - last
                    self.assert_fraction(
                        sum_stepped(weights, length, first, last), gone(weights, length, first, last, None))
                    if ways_counted(length, first, last) <= 400:
                        self.assert_fraction(
                            sum_listed(weights, length, first, last), summed(weights, length, first, last, None))
                    for asked in BOTH:
                        self.assert_refused(TooFar, asked, weights, length + 1, first, last)
                        self.assert_refused(TooFar, asked, weights, length + 1, first, last, None)

    def test_with_a_number_below_at_k_plus_1_and_above_it(self):
        for weights in MIXED:
            k = len(weights[1])
            self.assert_fraction(sum_stepped(weights, 2 * k + 2, 0, 0, k + 1), gone(weights, 2 * k + 2, 0, 0, k + 1))
            for below in (k + 2, k + 3, 9):
                for asked in BOTH:
                    if below > k + 1:
                        self.assert_refused(TooFar, asked, weights, 2 * k + 2, 0, 0, below)
                        self.assert_refused(TooFar, asked, weights, 2, k, k, below)
        for k in range(4):
            self.assert_fraction(
                sum_listed(MIXED[k], 2 * k + 2, 0, 0, k + 1), summed(MIXED[k], 2 * k + 2, 0, 0, k + 1))
            self.assert_fraction(sum_listed(MIXED[k], 2, k, k, k + 1), summed(MIXED[k], 2, k, k, k + 1))

    def test_a_number_below_above_k_plus_1_that_is_not_too_far(self):
        for k in range(5):
            for asked in BOTH:
                if ways_counted(2 * k + 1) <= 400:
                    for below in (k + 1, k + 2, 9):
                        self.assertEqual(asked(MIXED[k], 2 * k + 1, 0, 0, below), asked(MIXED[k], 2 * k + 1))
                    self.assertEqual(asked(MIXED[k], 1, k, k, 9), MIXED[k][0][k])

    def test_too_many_behind_too_far_by_listing_alone(self):
        self.assert_refused(TooFar, sum_listed, MIXED[3], 9)
        self.assert_refused(TooFar, sum_listed, MIXED[0], 15)
        self.assert_refused(TooFar, sum_listed, MIXED[6], 15, 0, 0, 9)
        self.assert_refused(TooMany, sum_listed, MIXED[4], 9)
        self.assert_refused(TooMany, sum_listed, MIXED[7], 15)
        self.assert_refused(TooMany, sum_listed, MIXED[1], 15, 0, 0, 2)
        self.assertEqual(sum_stepped(ONES[4], 9), (835, 1))
        self.assertEqual(sum_stepped(ONES[7], 15), (310572, 1))

    def test_somewhat_beyond_nothing_else_is_refused(self):
        for asked in BOTH:
            self.assertEqual(asked(MIXED[2], 0, 3, 0), (0, 1))
            self.assertEqual(asked(MIXED[2], 2, 0, 3), (0, 1))
            self.assertEqual(asked(MIXED[2], 4, 3, 3, 3), (0, 1))
            self.assertEqual(asked(MIXED[0], 17, 0, 0, 1), (1, 2 ** 17))
            self.assertEqual(asked(MIXED[2], 2, 0, 0, -1), (0, 1))
            self.assertEqual(asked(MIXED[2], -1), (0, 1))
            self.assertEqual(asked(MIXED[2], 3, 4, -2), (0, 1))
            self.assertEqual(asked(MIXED[2], 1, -1, 0), (0, 1))


class MomentsTest(SumsCase):
    def test_for_several_weights_the_sums_of_all_ways(self):
        for weights in MIXED + ONES + NOUGHTS + [HOLED] + SETS[::3]:
            k = len(weights[1])
            answer = moments(weights)
            self.assertIs(type(answer), list)
            self.assertEqual(len(answer), 2 * k + 2)
            self.assertEqual(answer[0], (1, 1))
            for length, moment in enumerate(answer):
                self.assertEqual(moment, sum_stepped(weights, length))
                if ways_counted(length) <= 400:
                    self.assertEqual(moment, sum_listed(weights, length))
                    self.assert_fraction(moment, summed(weights, length, 0, 0, None))
                else:
                    self.assert_fraction(moment, gone(weights, length, 0, 0, None))

    def test_by_hand(self):
        self.assertEqual(moments(MIXED[0]), [(1, 1), (1, 2)])
        self.assertEqual(moments(MIXED[1]), [(1, 1), (1, 2), (9, 4), (-31, 8)])
        self.assertEqual(moments(weights_of([(0, 1)] * 2, [(1, 3)])), [(1, 1), (0, 1), (1, 3), (0, 1)])

    def test_ones(self):
        expected = [(ways_counted(length), 1) for length in range(16)]
        for weights in ONES:
            self.assertEqual(moments(weights), expected[:len(weights[0]) * 2])

    def test_numbers_that_are_known_to_the_length_15(self):
        orders = [1]
        for number in range(1, 16):
            orders.append(orders[-1] * number)
        self.assertEqual(moments(ORDERS[7]), [(number, 1) for number in orders])
        sets = [
            1, 1, 2, 5, 15, 52, 203, 877, 4140, 21147, 115975, 678570, 4213597, 27644437, 190899322, 1382958545]
        self.assertEqual(moments(SETS[7]), [(number, 1) for number in sets])
        pairings = [1, 0, 1, 0, 3, 0, 15, 0, 105, 0, 945, 0, 10395, 0, 135135, 0]
        self.assertEqual(moments(PAIRINGS[7]), [(number, 1) for number in pairings])

    def test_weights_that_are_nought(self):
        for weights in NOUGHTS:
            self.assertEqual(moments(weights), [(1, 1)] + [(0, 1)] * (2 * len(weights[1]) + 1))
        only_levels = weights_of([(2, 1), (5, 1), (7, 1)], [(0, 1), (3, 1)])
        self.assertEqual(moments(only_levels), [(2 ** length, 1) for length in range(6)])

    def test_a_new_list_each_time(self):
        first = moments(MIXED[1])
        second = moments(MIXED[1])
        self.assertIsNot(first, second)
        first[0] = (9, 1)
        first.append((1, 1))
        self.assertEqual(second, [(1, 1), (1, 2), (9, 4), (-31, 8)])
        self.assertEqual(moments(MIXED[1]), second)

    def test_lists_that_are_changed_behind_it_change_nothing(self):
        levels = [(1, 2), (-3, 1)]
        downs = [(2, 1)]
        weights = weights_of(levels, downs)
        levels[0] = (7, 1)
        downs[0] = (7, 1)
        self.assertEqual(moments(weights), [(1, 1), (1, 2), (9, 4), (-31, 8)])
        self.assertEqual(sum_listed(weights, 3), (-31, 8))
        self.assertEqual(weights, (((1, 2), (-3, 1)), ((2, 1),)))


if __name__ == "__main__":
    unittest.main()
