import inspect
import unittest
from fractions import Fraction
from functools import lru_cache
from math import gcd, prod

from heightfractions import under
from heightfractions.errors import NoSeries, TooFar
from heightfractions.polys import poly_minus, poly_times
from heightfractions.sums import moments, sum_listed, sum_stepped
from heightfractions.under import end_of, series
from heightfractions.ways import ways_counted
from heightfractions.weights import weights_of

LEVELS = [(1, 2), (-3, 1), (5, 7), (2, 3), (-1, 12), (999998, 11), (4, 1), (7, 5)]
DOWNS = [(2, 1), (-1, 3), (7, 4), (11, 1), (13, 6), (-5, 9), (999997, 12)]
MIXED = [weights_of(LEVELS[:k + 1], DOWNS[:k]) for k in range(8)]
ONES = [weights_of([(1, 1)] * (k + 1), [(1, 1)] * k) for k in range(8)]
NOUGHTS = [weights_of([(0, 1)] * (k + 1), [(0, 1)] * k) for k in range(8)]
HOLED = weights_of([(0, 1), (3, 1), (0, 1), (-1, 2)], [(2, 1), (0, 1), (5, 1)])
CUT = weights_of([(2, 1), (3, 1), (5, 1)], [(0, 1), (7, 1)])
PAIRINGS = weights_of([(0, 1)] * 6, [(h, 1) for h in range(1, 6)])
ALL = MIXED + ONES[::3] + NOUGHTS[::2] + [HOLED, CUT, PAIRINGS]


def whole(numbers):
    """The polynomial of a list of whole numbers, none but () with a nought at the end."""
    return tuple((number, 1) for number in numbers)


def values(poly):
    return [Fraction(*number) for number in poly]


def product_of(f, g):
    """The product of two rows of numbers, as a row."""
    answer = [Fraction(0)] * (len(f) + len(g))
    for i, a in enumerate(f):
        for j, b in enumerate(g):
            answer[i + j] += a * b
    return answer


def filled(numbers, many):
    """The row as so many numbers; behind these it has noughts alone."""
    if any(numbers[many:]):
        raise ValueError("the row is longer")
    return (numbers + [Fraction(0)] * many)[:many]


def rule_of_ends(weights):
    """All tops and bottoms by the document's rule, as rows with noughts behind."""
    levels = values(weights[0])
    downs = values(weights[1])
    tops = [[Fraction(0)], [Fraction(1)]]
    bottoms = [[Fraction(1)], [Fraction(1), -levels[0]]]
    for h in range(1, len(levels)):
        for row in (tops, bottoms):
            ahead = filled(product_of([Fraction(1), -levels[h]], row[h]), 20)
            less = filled(product_of([Fraction(0), Fraction(0), downs[h - 1]], row[h - 1]), 20)
            row.append([a - b for a, b in zip(ahead, less, strict=True)])
    return list(zip(tops, bottoms, strict=True))


def cut_off(weights, h, z):
    """The fraction under fractions at a number z, all below the h-th 1 cut off."""
    levels = values(weights[0])
    downs = values(weights[1])
    if h == 0:
        return Fraction(0)
    value = 1 - levels[h - 1] * z
    for height in reversed(range(h - 1)):
        value = 1 - levels[height] * z - downs[height] * z * z / value
    return 1 / value


def value_at(poly, z):
    return sum((number * z ** n for n, number in enumerate(values(poly))), Fraction(0))


@lru_cache(maxsize=None)
def gone(weights, left, height, below):
    """The sum of the weights of ways down to 0 with so many steps left, told by the first of them."""
    if height < 0 or height >= below or height > left:
        return Fraction(0)
    if left == 0:
        return Fraction(1)
    up = gone(weights, left - 1, height + 1, below)
    level = gone(weights, left - 1, height, below) * Fraction(*weights[0][height])
    down = gone(weights, left - 1, height - 1, below)
    return up + level + (down * Fraction(*weights[1][height - 1]) if height > 0 else 0)


class UnderCase(unittest.TestCase):
    def assert_fraction(self, answer, words=None):
        self.assertIs(type(answer), tuple, words)
        self.assertEqual([type(number) for number in answer], [int, int], words)
        self.assertTrue(answer[1] >= 1 and gcd(*answer) == 1, words)

    def assert_poly(self, answer, words=None):
        self.assertIs(type(answer), tuple, words)
        for number in answer:
            self.assert_fraction(number, words)
        self.assertTrue(answer == () or answer[-1] != (0, 1), words)

    def assert_refused(self, refusal, asked, *handed):
        with self.subTest(asked=asked.__name__, handed=repr(handed)), self.assertRaises(refusal) as taken:
            asked(*handed)
        self.assertIs(type(taken.exception), refusal)


class EndTest(UnderCase):
    def test_names_and_arguments(self):
        self.assertEqual(str(inspect.signature(under.end_of)), "(weights, h)")
        self.assertEqual(str(inspect.signature(under.series)), "(top, bottom, many)")

    def test_by_hand(self):
        weights = weights_of([(1, 2), (-3, 1), (2, 1)], [(2, 1), (5, 1)])
        self.assertEqual(end_of(weights, 0), ((), ((1, 1),)))
        self.assertEqual(end_of(weights, 1), (((1, 1),), ((1, 1), (-1, 2))))
        # (1 + 3 z) and (1 + 3 z) (1 - z/2) - 2 z z
        self.assertEqual(end_of(weights, 2), (((1, 1), (3, 1)), ((1, 1), (5, 2), (-7, 2))))
        # (1 - 2 z) (1 + 3 z) - 5 z z and (1 - 2 z) (1 + 5/2 z - 7/2 z z) - 5 z z (1 - z/2)
        self.assertEqual(end_of(weights, 3), (
            ((1, 1), (1, 1), (-11, 1)), ((1, 1), (1, 2), (-27, 2), (19, 2))))

    def test_each_end_by_the_rule(self):
        for weights in ALL:
            expected = rule_of_ends(weights)
            self.assertEqual(len(expected), len(weights[0]) + 1)
            for h, (top, bottom) in enumerate(expected):
                answer = end_of(weights, h)
                self.assertIs(type(answer), tuple)
                self.assertEqual(len(answer), 2)
                for told, wished in zip(answer, (top, bottom), strict=True):
                    self.assert_poly(told, (weights, h))
                    self.assertEqual(filled(values(told), 20), filled(wished, 20), (weights, h))

    def test_each_end_is_the_fraction_under_fractions_cut_off(self):
        for weights in ALL:
            for h in range(len(weights[0]) + 1):
                top, bottom = end_of(weights, h)
                for z in (Fraction(0), Fraction(1, 17), Fraction(-3, 19)):
                    self.assertEqual(value_at(top, z) / value_at(bottom, z), cut_off(weights, h, z), (weights, h))

    def test_bottoms_begin_with_1_and_tops_but_the_first(self):
        for weights in ALL:
            self.assertEqual(end_of(weights, 0)[0], ())
            for h in range(len(weights[0]) + 1):
                top, bottom = end_of(weights, h)
                self.assertEqual(bottom[0], (1, 1))
                self.assertLessEqual(len(bottom), h + 1)
                self.assertLessEqual(len(top), h)
                if h > 0:
                    self.assertEqual(top[0], (1, 1))

    def test_weights_that_are_nought(self):
        for weights in NOUGHTS:
            self.assertEqual(end_of(weights, 0), ((), ((1, 1),)))
            for h in range(1, len(weights[0]) + 1):
                self.assertEqual(end_of(weights, h), (((1, 1),), ((1, 1),)))
        self.assertEqual(end_of(weights_of([(0, 1)], []), 1), (((1, 1),), ((1, 1),)))
        self.assertEqual(end_of(weights_of([(0, 1)] * 2, [(3, 1)]), 2), (((1, 1),), whole([1, 0, -3])))

    def test_nothing_is_brought_to_lower_terms(self):
        # Where the first down is nought 1 - 3 z divides both.
        self.assertEqual(end_of(CUT, 2), (whole([1, -3]), whole([1, -5, 6])))
        self.assertEqual(end_of(CUT, 3), (whole([1, -8, 8]), whole([1, -10, 24, -16])))
        alike = weights_of([(1, 1)] * 3, [(0, 1)] * 2)
        self.assertEqual(end_of(alike, 3), (whole([1, -2, 1]), whole([1, -3, 3, -1])))

    def test_too_far_at_k_plus_2_and_not_at_k_plus_1(self):
        for weights in MIXED + NOUGHTS + [HOLED]:
            k = len(weights[1])
            self.assertEqual(len(end_of(weights, k + 1)), 2)
            for h in (k + 2, k + 3, 9 + k, 10 ** 69):
                self.assert_refused(TooFar, end_of, weights, h)

    def test_below_0_nothing_is_refused(self):
        for h in (-1, -2, -10):
            for weights in (MIXED[0], MIXED[3]):
                self.assertEqual(end_of(weights, h), end_of(weights, 0))

    def test_lists_that_are_changed_behind_it_change_nothing(self):
        levels = [(1, 2), (-3, 1)]
        downs = [(2, 1)]
        weights = weights_of(levels, downs)
        expected = end_of(weights, 2)
        levels[0] = (7, 1)
        downs[0] = (7, 1)
        self.assertEqual(end_of(weights, 2), expected)
        self.assertEqual(weights, (((1, 2), (-3, 1)), ((2, 1),)))


class SeriesTest(UnderCase):
    def look_at(self, top, bottom, many):
        answer = series(top, bottom, many)
        self.assertIs(type(answer), list)
        self.assertEqual(len(answer), many)
        for number in answer:
            self.assert_fraction(number)
        powers = product_of(values(answer), values(bottom))[:many]
        self.assertEqual(filled(powers, many), filled(values(top)[:many], many), (top, bottom, many))

    def test_by_hand(self):
        self.assertEqual(series(whole([1]), whole([1, -1]), 5), list(whole([1] * 5)))
        self.assertEqual(series(whole([1]), whole([1, -1, -1]), 8), list(whole([1, 1, 2, 3, 5, 8, 13, 21])))
        self.assertEqual(series(whole([1]), whole([2, 3]), 3), [(1, 2), (-3, 4), (9, 8)])
        self.assertEqual(series(whole([1, 2, 3]), whole([1]), 5), list(whole([1, 2, 3, 0, 0])))
        self.assertEqual(series(whole([1, 2, 3]), whole([1]), 2), list(whole([1, 2])))
        self.assertEqual(series(whole([6]), ((-2, 3),), 2), list(whole([-9, 0])))
        self.assertEqual(series(whole([0, 0, 1]), whole([1, 0, -1]), 6), list(whole([0, 0, 1, 0, 1, 0])))

    def test_times_the_bottom_it_gives_the_top(self):
        polys = [
            (), whole([1]), whole([0, 1]), whole([0, 0, 0, -2]), whole([3, -1, 4]), whole([1, -1]),
            ((2, 3), (0, 1), (-5, 12), (7, 1)), ((-1, 12), (999998, 11)), tuple(LEVELS), tuple(DOWNS),
            whole([2] + [0] * 30 + [5]), tuple((-n, n + 1) for n in range(1, 9)), whole(range(1, 60)),
        ]
        for top in polys:
            for bottom in polys:
                if bottom != () and bottom[0] != (0, 1):
                    for many in (0, 1, 2, 3, 7, 40):
                        self.look_at(top, bottom, many)

    def test_numbers_of_seventy_figures(self):
        long = [Fraction((-1) ** n * (10 ** 69 + n * n), 10 ** 70 - 3 ** n).as_integer_ratio() for n in range(1, 9)]
        polys = [tuple(long[:4]), tuple(long[4:]), (long[0], (1, 10 ** 70 - 1))]
        for top in polys:
            for bottom in polys:
                self.look_at(top, bottom, 12)

    def test_none_and_forty(self):
        for weights in (MIXED[4], MIXED[0], HOLED):
            for h in range(len(weights[0]) + 1):
                top, bottom = end_of(weights, h)
                self.assertEqual(series(top, bottom, 0), [])
                self.look_at(top, bottom, 40)
                forty = series(top, bottom, 40)
                for many in (1, 2, 16, 39):
                    self.assertEqual(series(top, bottom, many), forty[:many])

    def test_what_the_program_told_may_be_handed_in_whatever_its_size(self):
        top, bottom = end_of(MIXED[7], 8)
        long = poly_times(poly_times(top, bottom), poly_times(bottom, bottom))
        self.look_at(long, poly_times(bottom, bottom), 40)
        self.look_at(long, bottom, 40)

    def test_no_series(self):
        for many in (0, 1, 7, 40):
            for top in ((), whole([1]), whole([0, 1]), tuple(LEVELS)):
                for bottom in ((), whole([0, 1]), whole([0, 0, 0, 5]), ((0, 1), (-2, 3))):
                    self.assert_refused(NoSeries, series, top, bottom, many)
                self.assertEqual(len(series(top, ((-1, 9),), many)), many)

    def test_somewhat_beyond_nothing_is_refused(self):
        self.assertEqual(series(whole([1]), whole([1, -2]), -1), [])
        self.assertEqual(series(whole([1]), whole([1, -2]), 45), [(2 ** n, 1) for n in range(45)])
        self.assert_refused(NoSeries, series, whole([1]), (), -1)

    def test_a_new_list_each_time(self):
        top, bottom = end_of(MIXED[1], 2)
        first = series(top, bottom, 4)
        second = series(top, bottom, 4)
        self.assertIsNot(first, second)
        first[0] = (9, 1)
        first.append((1, 1))
        self.assertEqual(second, [(1, 1), (1, 2), (9, 4), (-31, 8)])
        self.assertEqual(series(top, bottom, 4), second)
        none = series(top, bottom, 0)
        none.append((1, 1))
        self.assertEqual(series(top, bottom, 0), [])


class EndSeriesTest(UnderCase):
    def test_the_series_of_an_end_are_the_sums_of_the_ways_below(self):
        for weights in ALL:
            for h in range(len(weights[0]) + 1):
                for n, number in enumerate(series(*end_of(weights, h), 16)):
                    words = (weights, h, n)
                    self.assertEqual(number, sum_stepped(weights, n, 0, 0, h), words)
                    self.assertEqual(Fraction(*number), gone(weights, n, 0, h), words)

    def test_beyond_2_h_and_for_every_n(self):
        for weights in (MIXED[0], MIXED[2], MIXED[3], ONES[6], HOLED, CUT, PAIRINGS):
            for h in range(len(weights[0]) + 1):
                numbers = series(*end_of(weights, h), 40)
                for n in range(2 * h, 40):
                    self.assertEqual(Fraction(*numbers[n]), gone(weights, n, 0, h), (weights, h, n))

    def test_against_the_ways_listed(self):
        for weights in MIXED + [HOLED, CUT]:
            for h in range(len(weights[0]) + 1):
                for n, number in enumerate(series(*end_of(weights, h), 16)):
                    if ways_counted(n, 0, 0, h) <= 100:
                        self.assertEqual(number, sum_listed(weights, n, 0, 0, h), (weights, h, n))

    def test_the_moments_below_2_h(self):
        for weights in ALL:
            told = moments(weights)
            for h in range(len(weights[0]) + 1):
                self.assertEqual(series(*end_of(weights, h), 2 * h), told[:2 * h], (weights, h))

    def test_at_2_h_one_way_is_left_out(self):
        for weights in ALL:
            told = moments(weights)
            downs = values(weights[1])
            for h in range(len(weights[0])):
                number = Fraction(*series(*end_of(weights, h), 2 * h + 1)[2 * h])
                self.assertEqual(Fraction(*told[2 * h]) - number, prod(downs[:h]), (weights, h))

    def test_two_neighbouring_ends(self):
        for weights in ALL:
            downs = values(weights[1])
            for h in range(len(weights[0])):
                top, bottom = end_of(weights, h)
                next_top, next_bottom = end_of(weights, h + 1)
                answer = poly_minus(poly_times(next_top, bottom), poly_times(top, next_bottom))
                expected = filled([Fraction(0)] * (2 * h) + [Fraction(prod(downs[:h]))], 20)
                self.assertEqual(filled(values(answer), 20), expected, (weights, h))


if __name__ == "__main__":
    unittest.main()
