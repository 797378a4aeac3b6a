import inspect
import unittest
from fractions import Fraction
from functools import lru_cache
from itertools import permutations
from math import gcd, prod

from heightfractions import rows
from heightfractions.errors import TooFar
from heightfractions.polys import degree_of, poly_of, poly_plus, poly_scaled, poly_times
from heightfractions.rows import in_row, row_of, ruled
from heightfractions.sums import moments, sum_stepped
from heightfractions.under import end_of
from heightfractions.weights import weights_of

LEVELS = [(1, 2), (-3, 1), (5, 7), (2, 3), (-1, 12), (999998, 11), (4, 1), (7, 5)]
DOWNS = [(2, 1), (-1, 3), (7, 4), (11, 1), (13, 6), (-5, 9), (999997, 12)]
MIXED = [weights_of(LEVELS[:k + 1], DOWNS[:k]) for k in range(8)]
ONES = [weights_of([(1, 1)] * (k + 1), [(1, 1)] * k) for k in range(8)]
NOUGHTS = [weights_of([(0, 1)] * (k + 1), [(0, 1)] * k) for k in range(8)]
HOLED = weights_of([(0, 1), (3, 1), (0, 1), (-1, 2)], [(2, 1), (0, 1), (5, 1)])
CUT = weights_of([(2, 1), (3, 1), (5, 1)], [(0, 1), (7, 1)])
PAIRINGS = weights_of([(0, 1)] * 6, [(h, 1) for h in range(1, 6)])
ALL = MIXED + ONES[::3] + NOUGHTS[::2] + [HOLED, CUT, PAIRINGS]
LONG = [Fraction((-1) ** n * (10 ** 69 + n * n), 10 ** 70 - 3 ** n).as_integer_ratio() for n in range(1, 10)]


def whole(numbers):
    """The polynomial of a list of whole numbers, none but () with a nought at the end."""
    return tuple((number, 1) for number in numbers)


def values(poly):
    return [Fraction(*number) for number in poly]


def x_to(n):
    """The power n of x."""
    return whole([0] * n + [1])


def value_at(poly, x):
    return sum((number * x ** n for n, number in enumerate(values(poly))), Fraction(0))


def crossed(table):
    """The determinant, as the sum over all orders."""
    total = Fraction(0)
    for order in permutations(range(len(table))):
        turns = sum(order[i] > order[j] for j in range(len(order)) for i in range(j))
        total += (-1) ** turns * prod((table[i][j] for i, j in enumerate(order)), start=Fraction(1))
    return total


def slanted(weights, h, x):
    """The table whose determinant is the one at place h of the row at x."""
    table = [[Fraction(0)] * h for place in range(h)]
    for i in range(h):
        table[i][i] = x - Fraction(*weights[0][i])
        if i > 0:
            table[i][i - 1] = -Fraction(*weights[1][i - 1])
            table[i - 1][i] = Fraction(-1)
    return table


@lru_cache(maxsize=None)
def gone(weights, left, height, last):
    """The sum of the weights of ways with so many steps left, told by the first of them."""
    if height < 0 or abs(last - height) > left:
        return Fraction(0)
    if left == 0:
        return Fraction(1)
    up = gone(weights, left - 1, height + 1, last)
    level = gone(weights, left - 1, height, last)
    down = gone(weights, left - 1, height - 1, last)
    # Where there is no weight nothing may be left to weigh, or Python complains.
    if level:
        level *= Fraction(*weights[0][height])
    if down:
        down *= Fraction(*weights[1][height - 1])
    return up + level + down


class RowsCase(unittest.TestCase):
    def assert_fraction(self, answer, words=None):
        self.assertIs(type(answer), tuple, words)
        self.assertEqual([type(number) for number in answer], [int, int], words)
        self.assertTrue(answer[1] >= 1 and gcd(*answer) == 1, words)

    def assert_refused(self, refusal, asked, *handed):
        with self.subTest(asked=asked.__name__, handed=repr(handed)), self.assertRaises(refusal) as taken:
            asked(*handed)
        self.assertIs(type(taken.exception), refusal)


class RowTest(RowsCase):
    def test_names_and_arguments(self):
        self.assertEqual(str(inspect.signature(rows.row_of)), "(weights)")
        self.assertEqual(str(inspect.signature(rows.ruled)), "(moments, poly)")
        self.assertEqual(str(inspect.signature(rows.in_row)), "(weights, poly)")

    def test_by_hand(self):
        self.assertEqual(row_of(weights_of([(1, 2)], [])), [((1, 1),), ((-1, 2), (1, 1))])
        self.assertEqual(row_of(weights_of([(0, 1)], [])), [((1, 1),), ((0, 1), (1, 1))])
        weights = weights_of([(1, 2), (-3, 1), (2, 1)], [(2, 1), (5, 1)])
        self.assertEqual(row_of(weights), [
            ((1, 1),), ((-1, 2), (1, 1)), ((-7, 2), (5, 2), (1, 1)), ((19, 2), (-27, 2), (1, 2), (1, 1))])

    def test_by_the_rule(self):
        for weights in ALL:
            levels = values(weights[0])
            downs = values(weights[1])
            row = row_of(weights)
            self.assertIs(type(row), list)
            self.assertEqual(len(row), len(downs) + 2)
            for x in (Fraction(0), Fraction(1), Fraction(-7, 3), Fraction(12, 5)):
                told = [value_at(poly, x) for poly in row]
                self.assertEqual(told[:2], [1, x - levels[0]])
                for h in range(1, len(levels)):
                    self.assertEqual(told[h + 1], (x - levels[h]) * told[h] - downs[h - 1] * told[h - 1], (weights, h))

    def test_against_determinants(self):
        for weights in MIXED[:5] + [HOLED, CUT, ONES[3], PAIRINGS]:
            row = row_of(weights)
            for h in range(min(len(row), 6)):
                for x in range(h + 1):
                    self.assertEqual(value_at(row[h], x), crossed(slanted(weights, h, x)), (weights, h, x))

    def test_degree_and_last_number(self):
        for weights in ALL:
            for h, poly in enumerate(row_of(weights)):
                self.assertIs(type(poly), tuple)
                for number in poly:
                    self.assert_fraction(number)
                self.assertEqual(degree_of(poly), h)
                self.assertEqual(poly[-1], (1, 1))

    def test_turned_about_it_is_the_bottom(self):
        for weights in ALL:
            for h, poly in enumerate(row_of(weights)):
                turned = list(reversed(poly))
                while turned and turned[-1] == (0, 1):
                    turned.pop()
                self.assertEqual(tuple(turned), end_of(weights, h)[1], (weights, h))

    def test_a_new_list_each_time(self):
        first = row_of(MIXED[1])
        second = row_of(MIXED[1])
        self.assertIsNot(first, second)
        first[0] = ()
        first.append(())
        self.assertEqual(second, [((1, 1),), ((-1, 2), (1, 1)), ((-7, 2), (5, 2), (1, 1))])
        self.assertEqual(row_of(MIXED[1]), second)

    def test_lists_that_are_changed_behind_it_change_nothing(self):
        levels = [(1, 2), (-3, 1)]
        downs = [(2, 1)]
        weights = weights_of(levels, downs)
        levels[0] = (7, 1)
        downs[0] = (7, 1)
        self.assertEqual(row_of(weights), row_of(MIXED[1]))
        self.assertEqual(in_row(weights, x_to(1)), [(1, 2), (1, 1), (0, 1)])
        self.assertEqual(weights, (((1, 2), (-3, 1)), ((2, 1),)))


class RuleTest(RowsCase):
    def test_by_hand(self):
        self.assertEqual(ruled([(1, 2), (3, 1), (-5, 7)], ((2, 1), (1, 6), (7, 5))), (1, 2))
        self.assertEqual(ruled([(1, 2), (3, 1), (-5, 7)], ((2, 1),)), (1, 1))
        self.assertEqual(ruled([(0, 1), (0, 1)], ((2, 1), (3, 1))), (0, 1))

    def test_of_nought(self):
        self.assertEqual(ruled([], ()), (0, 1))
        self.assertEqual(ruled([(3, 1)], ()), (0, 1))
        self.assertEqual(ruled(LEVELS, ()), (0, 1))

    def test_a_power_is_taken_to_its_moment(self):
        for listed in (LEVELS, DOWNS, LONG, moments(MIXED[7]), [(0, 1), (0, 1), (4, 1)]):
            for n, moment in enumerate(listed):
                self.assertEqual(ruled(listed, x_to(n)), moment)

    def test_sums_of_numbers_times_moments(self):
        for listed in (LEVELS, DOWNS, LONG, moments(MIXED[7])):
            for poly in (tuple(LEVELS), tuple(DOWNS), tuple(LONG), whole([0, 0, 3]), whole([5]), ((0, 1), (-2, 9))):
                if len(poly) <= len(listed):
                    answer = ruled(listed, poly)
                    self.assert_fraction(answer)
                    pairs = zip(values(listed), values(poly))
                    self.assertEqual(Fraction(*answer), sum(a * b for a, b in pairs))

    def test_too_far_where_the_degree_is_as_great_as_the_number_of_moments(self):
        for many in range(8):
            listed = LEVELS[:many]
            for poly in (x_to(many), tuple(DOWNS[:1] * (many + 1)), x_to(many + 1), x_to(many + 5)):
                self.assert_refused(TooFar, ruled, listed, poly)
            if many > 0:
                self.assertEqual(ruled(listed, x_to(many - 1)), listed[-1])

    def test_the_list_handed_in_stays(self):
        listed = [(1, 2), (3, 1)]
        self.assertEqual(ruled(listed, whole([2, 1])), (4, 1))
        self.assertEqual(listed, [(1, 2), (3, 1)])
        listed[0] = (5, 1)
        self.assertEqual(ruled(listed, whole([2, 1])), (13, 1))


class RuleAndRowTest(RowsCase):
    def test_products_of_two_unlike_go_to_nought(self):
        for weights in ALL:
            k = len(weights[1])
            row = row_of(weights)
            listed = moments(weights)
            for i in range(k + 2):
                for j in range(k + 2):
                    if i != j and i + j <= 2 * k + 1:
                        self.assertEqual(ruled(listed, poly_times(row[i], row[j])), (0, 1), (weights, i, j))

    def test_of_one_with_itself_to_the_product_of_the_downs(self):
        for weights in ALL:
            k = len(weights[1])
            row = row_of(weights)
            listed = moments(weights)
            for i in range(k + 1):
                answer = ruled(listed, poly_times(row[i], row[i]))
                self.assertEqual(Fraction(*answer), prod(values(weights[1])[:i]), (weights, i))
            self.assert_refused(TooFar, ruled, listed, poly_times(row[k + 1], row[k + 1]))

    def test_with_a_power_of_x_between(self):
        for weights in MIXED[:5] + [MIXED[7], ONES[3], NOUGHTS[2], HOLED, CUT, PAIRINGS]:
            k = len(weights[1])
            for i in range(k + 1):
                for j in range(k + 1):
                    # To the height 7 the ends alone, since each takes long.
                    lengths = range(2 * k + 2 - i - j)
                    for n in lengths if k < 7 else lengths[::-5]:
                        self.look_between(weights, n, i, j)

    def look_between(self, weights, n, i, j):
        row = row_of(weights)
        answer = ruled(moments(weights), poly_times(x_to(n), poly_times(row[i], row[j])))
        down = prod(values(weights[1])[:j])
        self.assertEqual(Fraction(*answer), down * Fraction(*sum_stepped(weights, n, i, j)), (weights, n, i, j))
        self.assertEqual(Fraction(*answer), down * gone(weights, n, i, j), (weights, n, i, j))


class InRowTest(RowsCase):
    def look_at(self, weights, poly):
        answer = in_row(weights, poly)
        self.assertIs(type(answer), list)
        self.assertEqual(len(answer), len(weights[1]) + 2)
        total = ()
        for number, one in zip(answer, row_of(weights), strict=True):
            self.assert_fraction(number)
            total = poly_plus(total, poly_scaled(one, number))
        self.assertEqual(total, poly, (weights, poly))

    def test_by_hand(self):
        weights = weights_of([(1, 2), (-3, 1)], [(2, 1)])
        self.assertEqual(in_row(weights, ()), [(0, 1)] * 3)
        self.assertEqual(in_row(weights, whole([7])), [(7, 1), (0, 1), (0, 1)])
        self.assertEqual(in_row(weights, whole([0, 1])), [(1, 2), (1, 1), (0, 1)])
        self.assertEqual(in_row(weights, whole([0, 0, 1])), [(9, 4), (-5, 2), (1, 1)])
        self.assertEqual(in_row(weights, ((0, 1), (0, 1), (2, 3))), [(3, 2), (-5, 3), (2, 3)])

    def test_put_together_it_is_the_polynomial_again(self):
        for weights in ALL:
            k = len(weights[1])
            for many in range(k + 3):
                self.look_at(weights, poly_of(LEVELS[:many]))
                self.look_at(weights, poly_of(LONG[:many]))
                self.look_at(weights, x_to(many) if many < k + 2 else ())
                self.look_at(weights, poly_of([(0, 1)] * (many - 1) + [(-5, 9)] if many > 0 else []))

    def test_the_ones_of_the_row(self):
        for weights in ALL:
            row = row_of(weights)
            for h, one in enumerate(row):
                self.assertEqual(in_row(weights, one), [(1 if h == place else 0, 1) for place in range(len(row))])

    def test_too_far_at_the_degree_k_plus_2_and_not_at_k_plus_1(self):
        for weights in ALL:
            k = len(weights[1])
            self.assertEqual(in_row(weights, x_to(k + 1))[-1], (1, 1))
            self.look_at(weights, whole([-2] * (k + 2)))
            for poly in (x_to(k + 2), whole([-2] * (k + 3)), x_to(k + 3), x_to(k + 20)):
                self.assert_refused(TooFar, in_row, weights, poly)

    def test_powers_of_x_against_the_sums(self):
        for weights in ALL:
            k = len(weights[1])
            for n in range(k + 1):
                answer = in_row(weights, x_to(n))
                for j in range(k + 1):
                    self.assertEqual(answer[j], sum_stepped(weights, n, 0, j), (weights, n, j))
                    self.assertEqual(Fraction(*answer[j]), gone(weights, n, 0, j), (weights, n, j))
                self.assertEqual(answer[k + 1], (0, 1))

    def test_a_new_list_each_time(self):
        first = in_row(MIXED[1], whole([0, 1]))
        second = in_row(MIXED[1], whole([0, 1]))
        self.assertIsNot(first, second)
        first[0] = (9, 1)
        first.append((9, 1))
        self.assertEqual(second, [(1, 2), (1, 1), (0, 1)])
        self.assertEqual(in_row(MIXED[1], whole([0, 1])), second)


if __name__ == "__main__":
    unittest.main()
