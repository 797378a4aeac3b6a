import inspect
import unittest
from fractions import Fraction
from itertools import product
from math import gcd

from heightfractions import back
from heightfractions.back import weights_back
from heightfractions.errors import NoMoments
from heightfractions.rows import row_of
from heightfractions.sums import moments
from heightfractions.tables import measure, moment_table
from heightfractions.weights import weights_of

LEVELS = [(1, 2), (-3, 1), (5, 7), (2, 3), (-1, 12), (999998, 11), (4, 1), (7, 5)]
DOWNS = [(2, 1), (-1, 3), (7, 4), (11, 1), (13, 6), (-5, 9), (999997, 12)]
MIXED = [weights_of(LEVELS[:k + 1], DOWNS[:k]) for k in range(8)]
ONES = [weights_of([(1, 1)] * (k + 1), [(1, 1)] * k) for k in range(8)]
LOW = [weights_of([(0, 1)] * (k + 1), [(-1, h) for h in range(1, k + 1)]) for k in range(8)]
NOUGHTS = [weights_of([(0, 1)] * (k + 1), [(0, 1)] * k) for k in range(8)]
HOLED = weights_of([(0, 1), (3, 1), (0, 1), (-1, 2)], [(2, 1), (0, 1), (5, 1)])


def whole(numbers):
    return [(number, 1) for number in numbers]


def solved(table, sums):
    """The only numbers which, times each list of the table, give the sums; the table's measure is not nought."""
    rows = [[Fraction(*number) for number in numbers] + [total] for numbers, total in zip(table, sums, strict=True)]
    for i in range(len(rows)):
        at = next(place for place in range(i, len(rows)) if rows[place][i] != 0)
        rows[i], rows[at] = rows[at], rows[i]
        rows[i] = [number / rows[i][i] for number in rows[i]]
        for other in range(len(rows)):
            if other != i:
                part = rows[other][i]
                rows[other] = [a - part * b for a, b in zip(rows[other], rows[i], strict=True)]
    return [numbers[-1] for numbers in rows]


def bars(listed):
    """The least size from 1 on with measure nought, None where there is none."""
    sizes = range(1, len(listed) // 2 + 1)
    return next((size for size in sizes if measure(moment_table(listed, size)) == (0, 1)), None)


class BackCase(unittest.TestCase):
    def assert_fractions(self, answer, many):
        self.assertIs(type(answer), tuple)
        self.assertEqual(len(answer), many)
        for number in answer:
            self.assertIs(type(number), tuple)
            self.assertEqual([type(part) for part in number], [int, int])
            self.assertTrue(number[1] >= 1 and gcd(*number) == 1, number)

    def assert_refused(self, *handed):
        with self.subTest(handed=repr(handed)), self.assertRaises(NoMoments) as taken:
            weights_back(*handed)
        self.assertIs(type(taken.exception), NoMoments)

    def assert_weights(self, listed):
        answer = weights_back(listed)
        self.assertIs(type(answer), tuple)
        self.assertEqual(len(answer), 3)
        self.assertEqual(answer[0], "weights")
        self.assert_fractions(answer[1], len(listed) // 2)
        self.assert_fractions(answer[2], len(listed) // 2 - 1)
        self.assertNotIn((0, 1), answer[2])
        self.assertEqual(moments(answer[1:]), listed)
        return answer

    def assert_barred(self, listed, n):
        answer = weights_back(listed)
        self.assertIs(type(answer), tuple)
        self.assertEqual(answer[:2], ("barred", n), listed)
        self.assertIs(type(answer[1]), int)
        self.assertEqual(len(answer), 3)
        self.assert_fractions(answer[2], n)
        self.assertEqual(answer[2][-1], (1, 1))
        row = [Fraction(*number) for number in answer[2]]
        for numbers in moment_table(listed, n):
            self.assertEqual(sum(a * Fraction(*b) for a, b in zip(row, numbers, strict=True)), 0)
        # All but the last list of the table, the last number being 1, give the only row.
        wished = [-Fraction(*moment) for moment in listed[n - 1:2 * n - 2]]
        self.assertEqual(row[:-1], solved(moment_table(listed, n - 1), wished))
        return answer


class WeightsBackTest(BackCase):
    def test_names_and_arguments(self):
        self.assertEqual(str(inspect.signature(back.weights_back)), "(moments)")

    def test_by_hand(self):
        self.assertEqual(weights_back(whole([1, 5])), ("weights", ((5, 1),), ()))
        self.assertEqual(weights_back(whole([1, 0])), ("weights", ((0, 1),), ()))
        self.assertEqual(
            weights_back([(1, 1), (1, 2), (9, 4), (-31, 8)]), ("weights", ((1, 2), (-3, 1)), ((2, 1),)))
        self.assertEqual(
            weights_back(whole([1, 1, 2, 5, 15, 52])), ("weights", ((1, 1), (2, 1), (3, 1)), ((1, 1), (2, 1))))

    def test_from_the_moments_of_weights(self):
        for weights in MIXED + ONES + LOW:
            self.assertEqual(self.assert_weights(moments(weights)), ("weights",) + weights)

    def test_from_fewer_moments_to_less_heights(self):
        for weights in (MIXED[7], ONES[7], LOW[7]):
            listed = moments(weights)
            for k in range(8):
                expected = ("weights", weights[0][:k + 1], weights[1][:k])
                self.assertEqual(self.assert_weights(listed[:2 * k + 2]), expected)

    def test_numbers_that_are_known(self):
        listed = [(1, 1)]
        for number in range(1, 16):
            listed.append((listed[-1][0] * number, 1))
        expected = (tuple(whole(range(1, 16, 2))), tuple(whole(h * h for h in range(1, 8))))
        self.assertEqual(weights_back(listed), ("weights",) + expected)
        pairings = whole([1, 0, 1, 0, 3, 0, 15, 0, 105, 0, 945, 0, 10395, 0, 135135, 0])
        expected = (tuple(whole([0] * 8)), tuple(whole(range(1, 8))))
        self.assertEqual(weights_back(pairings), ("weights",) + expected)

    def test_from_moments_that_are_no_sums_of_known_weights(self):
        long = [Fraction((-1) ** n * (10 ** 69 + n * n), 10 ** 70 - 3 ** n).as_integer_ratio() for n in range(1, 12)]
        squares = [(n * n - 3, 1) for n in range(1, 4)]
        halves = [Fraction(n ** 3 + 1, 2 ** n).as_integer_ratio() for n in range(1, 8)]
        for numbers in (long[:1], long[:5], long, squares, halves):
            listed = [(1, 1)] + numbers
            self.assertIs(bars(listed), None)
            self.assert_weights(listed)

    def test_all_small_moments_are_told_back_or_barred(self):
        seen = {}
        for many, numbers in ((2, range(-2, 3)), (4, range(-2, 3)), (6, range(-1, 2)), (8, (0, 1))):
            for rest in product(numbers, repeat=many - 1):
                listed = whole((1,) + rest)
                n = bars(listed)
                seen[n] = seen.get(n, 0) + 1
                if n is None:
                    self.assert_weights(listed)
                else:
                    self.assert_barred(listed, n)
        self.assertEqual(sorted(seen, key=str), [2, 3, 4, None])


class BarredTest(BackCase):
    def test_by_hand(self):
        self.assertEqual(weights_back(whole([1, 0, 0, 5])), ("barred", 2, ((0, 1), (1, 1))))
        self.assertEqual(weights_back(whole([1, 2, 4, 5])), ("barred", 2, ((-2, 1), (1, 1))))
        self.assertEqual(
            weights_back([(1, 1), (1, 2), (1, 4), (0, 1), (7, 1), (9, 1)]), ("barred", 2, ((-1, 2), (1, 1))))
        # All numbers that are 1 or -1, each as often: x x - 1 shows it.
        self.assertEqual(weights_back(whole([1, 0, 1, 0, 1, 0])), ("barred", 3, ((-1, 1), (0, 1), (1, 1))))

    def test_by_weights_with_a_down_that_is_nought(self):
        for k in range(1, 8):
            for h in range(1, k + 1):
                downs = DOWNS[:h - 1] + [(0, 1)] + DOWNS[h:k]
                weights = weights_of(LEVELS[:k + 1], downs)
                answer = self.assert_barred(moments(weights), h + 1)
                self.assertEqual(answer[2], row_of(weights)[h])

    def test_the_first_of_several_that_bar(self):
        self.assertEqual(weights_back(moments(HOLED))[:2], ("barred", 3))
        for weights in NOUGHTS[1:]:
            self.assertEqual(weights_back(moments(weights)), ("barred", 2, ((0, 1), (1, 1))))
        for k in range(3, 8):
            downs = DOWNS[:1] + [(0, 1)] * (k - 1)
            self.assert_barred(moments(weights_of(LEVELS[:k + 1], downs)), 3)

    def test_at_the_last_size_and_not_ahead_of_it(self):
        for k in range(1, 8):
            listed = moments(MIXED[k])
            # With the last down nought the moment 2 k is less by one way.
            downs = DOWNS[:k - 1] + [(0, 1)]
            listed[2 * k] = moments(weights_of(LEVELS[:k + 1], downs))[2 * k]
            self.assert_barred(listed, k + 1)
            self.assertEqual(weights_back(listed[:2 * k])[0], "weights")

    def test_what_stands_behind_what_bars_changes_nothing(self):
        for rest in product((-1, 0, 3), repeat=3):
            listed = whole([1, 2, 4]) + whole(rest)
            self.assertEqual(self.assert_barred(listed, 2), ("barred", 2, ((-2, 1), (1, 1))))

    def test_the_size_1_never_bars_since_the_first_moment_is_1(self):
        self.assertEqual(measure(moment_table([(1, 1)], 1)), (1, 1))
        for number in (0, 1, -7):
            self.assertEqual(weights_back(whole([1, number])), ("weights", ((number, 1),), ()))
        for many in (2, 4, 16):
            self.assert_refused(whole([0] * many))
            self.assert_refused(whole([0, 1] + [3] * (many - 2)))


class NoMomentsTest(BackCase):
    def test_numbers_of_moments(self):
        listed = moments(MIXED[7]) + whole([1, 2, 3, 4])
        for many in list(range(1, 16, 2)) + [0, 17, 18, 19, 20]:
            self.assert_refused(listed[:many])
        for many in range(2, 17, 2):
            self.assertEqual(weights_back(listed[:many])[0], "weights")
        self.assert_refused([(1, 1)] * 18)
        self.assert_refused(listed * 5)

    def test_a_first_one_that_is_not_1(self):
        for first in ((0, 1), (2, 1), (-1, 1), (1, 2), (3, 2), (10 ** 69, 1)):
            for many in (2, 4, 8, 16):
                self.assert_refused([first] + moments(MIXED[7])[1:many])
            for many in (1, 3, 18):
                self.assert_refused([first] * many)
        self.assert_refused(whole([2, 2]))
        self.assertEqual(weights_back(whole([1, 2]))[0], "weights")

    def test_refused_ahead_of_what_would_bar(self):
        self.assert_refused(whole([1, 0, 0]))
        self.assert_refused(whole([0, 0, 0, 0]))
        self.assert_refused(whole([1] + [0] * 17))


class HandedInTest(BackCase):
    def test_the_list_handed_in_stays(self):
        for listed in (moments(MIXED[3]), whole([1, 0, 0, 5]), whole([1, 0, 1, 0, 1, 0]), whole([1, 2, 3]), []):
            kept = list(listed)
            try:
                weights_back(listed)
            except NoMoments:
                pass
            self.assertEqual(listed, kept)

    def test_a_list_that_is_changed_behind_it_changes_nothing(self):
        listed = moments(MIXED[2])
        answer = weights_back(listed)
        barred = whole([1, 2, 4, 5])
        row = weights_back(barred)
        for handed in (listed, barred):
            handed[1] = (9, 1)
            handed.pop()
        self.assertEqual(answer, ("weights",) + MIXED[2])
        self.assertEqual(row, ("barred", 2, ((-2, 1), (1, 1))))
        self.assertEqual(weights_back(moments(MIXED[2])), answer)


if __name__ == "__main__":
    unittest.main()
