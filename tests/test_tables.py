import copy
import inspect
import unittest
from fractions import Fraction
from itertools import permutations
from math import gcd, prod

from heightfractions import tables
from heightfractions.errors import TooFar
from heightfractions.polys import poly_value
from heightfractions.rows import row_of
from heightfractions.sums import moments
from heightfractions.tables import measure, moment_table
from heightfractions.weights import weights_of

LEVELS = [(1, 2), (-3, 1), (5, 7), (2, 3), (-1, 12), (999998, 11), (4, 1), (7, 5)]
DOWNS = [(2, 1), (-1, 3), (7, 4), (11, 1), (13, 6), (-5, 9), (999997, 12)]
MIXED = [weights_of(LEVELS[:k + 1], DOWNS[:k]) for k in range(8)]
ONES = [weights_of([(1, 1)] * (k + 1), [(1, 1)] * k) for k in range(8)]
NOUGHTS = [weights_of([(0, 1)] * (k + 1), [(0, 1)] * k) for k in range(8)]
HOLED = weights_of([(0, 1), (3, 1), (0, 1), (-1, 2)], [(2, 1), (0, 1), (5, 1)])
CUT = weights_of([(2, 1), (3, 1), (5, 1)], [(0, 1), (7, 1)])
PAIRINGS = weights_of([(0, 1)] * 8, [(h, 1) for h in range(1, 8)])
ALL = MIXED + ONES[::3] + NOUGHTS[::2] + [HOLED, CUT, PAIRINGS]
LISTED = [Fraction(7 * n * n - 40, n + 1).as_integer_ratio() for n in range(31)]


def whole(table):
    return [[(number, 1) for number in numbers] for numbers in table]


def made_up(size, seed, bottoms=1, holes=0):
    """A table that hangs on the seed alone; where holes are told, one number of so many is nought."""
    state = seed
    table = []
    for i in range(size):
        table.append([])
        for j in range(size):
            state = (state * 6364136223846793005 + 1442695040888963407) % 2 ** 64
            top = (state >> 33) % 41 - 20
            bottom = (state >> 50) % bottoms + 1
            top = 0 if holes and (state >> 40) % holes == 0 else top
            table[i].append(Fraction(top, bottom).as_integer_ratio())
    return table


def crossed(table):
    """The determinant, as the sum over all orders."""
    total = Fraction(0)
    for order in permutations(range(len(table))):
        turns = sum(order[i] > order[j] for j in range(len(order)) for i in range(j))
        total += (-1) ** turns * prod((Fraction(*table[i][j]) for i, j in enumerate(order)), start=Fraction(1))
    return total


def spread(table, places=None, known=None):
    """The determinant, as the sum over the numbers of the last row, each times that of what is left."""
    places = tuple(range(len(table))) if places is None else places
    known = {(): Fraction(1)} if known is None else known
    if places not in known:
        row = table[len(places) - 1]
        total = Fraction(0)
        for at, place in enumerate(places):
            if row[place] != (0, 1):
                sign = (-1) ** (len(places) - 1 - at)
                total += sign * Fraction(*row[place]) * spread(table, places[:at] + places[at + 1:], known)
        known[places] = total
    return known[places]


class TablesCase(unittest.TestCase):
    def assert_fraction(self, answer, words=None):
        self.assertIs(type(answer), tuple, words)
        self.assertEqual([type(number) for number in answer], [int, int], words)
        self.assertTrue(answer[1] >= 1 and gcd(*answer) == 1, words)

    def assert_refused(self, refusal, asked, *handed):
        with self.subTest(asked=asked.__name__, handed=repr(handed)), self.assertRaises(refusal) as taken:
            asked(*handed)
        self.assertIs(type(taken.exception), refusal)


class TableTest(TablesCase):
    def test_names_arguments_and_what_may_be_left_out(self):
        self.assertEqual(str(inspect.signature(tables.moment_table)), "(moments, size, shift=0)")
        self.assertEqual(str(inspect.signature(tables.measure)), "(table)")

    def test_by_hand(self):
        listed = [(1, 1), (2, 3), (-4, 5), (0, 1), (7, 1)]
        self.assertEqual(moment_table(listed, 1), [[(1, 1)]])
        self.assertEqual(moment_table(listed, 2), [[(1, 1), (2, 3)], [(2, 3), (-4, 5)]])
        self.assertEqual(moment_table(listed, 2, 0), moment_table(listed, 2))
        self.assertEqual(moment_table(listed, 2, 1), [[(2, 3), (-4, 5)], [(-4, 5), (0, 1)]])
        self.assertEqual(moment_table(listed, 2, 2), [[(-4, 5), (0, 1)], [(0, 1), (7, 1)]])
        self.assertEqual(moment_table(listed, 1, 4), [[(7, 1)]])
        self.assertEqual(moment_table(listed, 3), [listed[0:3], listed[1:4], listed[2:5]])

    def test_several_sizes_and_shifts(self):
        for size in range(9):
            for shift in range(16):
                table = moment_table(LISTED, size, shift)
                self.assertIs(type(table), list)
                self.assertEqual(len(table), size)
                for i, numbers in enumerate(table):
                    self.assertIs(type(numbers), list)
                    self.assertEqual(numbers, [LISTED[i + j + shift] for j in range(size)])
                if shift == 0:
                    self.assertEqual(moment_table(LISTED, size), table)

    def test_of_the_size_0_no_moment_is_needed(self):
        for listed in ([], [(1, 1)], LISTED):
            for shift in (0, 1, 15):
                self.assertEqual(moment_table(listed, 0, shift), [])
            self.assertEqual(moment_table(listed, 0), [])

    def test_too_far_where_the_last_is_not_there_and_not_where_it_is(self):
        for size in range(1, 9):
            for shift in range(16):
                needed = 2 * size - 1 + shift
                table = moment_table(LISTED[:needed], size, shift)
                self.assertEqual(table[-1][-1], LISTED[needed - 1])
                self.assert_refused(TooFar, moment_table, LISTED[:needed - 1], size, shift)
                self.assert_refused(TooFar, moment_table, [], size, shift)
            self.assertEqual(len(moment_table(LISTED[:2 * size - 1], size)), size)
            self.assert_refused(TooFar, moment_table, LISTED[:2 * size - 2], size)

    def test_somewhat_beyond(self):
        self.assertEqual(moment_table(LISTED, 9)[8], LISTED[8:17])
        self.assertEqual(moment_table(LISTED, 1, 16), [[LISTED[16]]])
        self.assertEqual(moment_table(LISTED, -1), [])
        # No moment stands at a place below 0.
        self.assert_refused(TooFar, moment_table, LISTED, 2, -1)
        self.assertEqual(moment_table(LISTED, 0, -1), [])

    def test_every_list_is_a_new_one(self):
        listed = LISTED[:5]
        first = moment_table(listed, 3)
        second = moment_table(listed, 3)
        expected = [LISTED[0:3], LISTED[1:4], LISTED[2:5]]
        self.assertIsNot(first, second)
        for i in range(3):
            self.assertIsNot(first[i], second[i])
            first[i][0] = (9, 1)
            first[i].append((9, 1))
        first.pop()
        self.assertEqual(second, expected)
        self.assertEqual(moment_table(listed, 3), expected)
        self.assertEqual(listed, LISTED[:5])
        one = moment_table(listed[:1], 1)
        one[0][0] = (9, 1)
        self.assertEqual(moment_table(listed[:1], 1), [listed[:1]])

    def test_within_a_table_no_list_stands_twice(self):
        table = moment_table([(1, 1)] * 5, 3)
        table[0][1] = (2, 1)
        self.assertEqual(table, whole([[1, 2, 1], [1, 1, 1], [1, 1, 1]]))

    def test_a_list_that_is_changed_behind_it_changes_nothing(self):
        listed = LISTED[:3]
        table = moment_table(listed, 2)
        listed[1] = (9, 1)
        listed.pop()
        self.assertEqual(table, [LISTED[0:2], LISTED[1:3]])


class MeasureTest(TablesCase):
    def look_at(self, table):
        before = copy.deepcopy(table)
        answer = measure(table)
        self.assert_fraction(answer, table)
        self.assertEqual(Fraction(*answer), spread(table), table)
        self.assertEqual(table, before)
        return answer

    def test_by_hand(self):
        self.assertEqual(measure([]), (1, 1))
        self.assertEqual(measure([[(-5, 7)]]), (-5, 7))
        self.assertEqual(measure([[(0, 1)]]), (0, 1))
        self.assertEqual(measure([[(1, 2), (1, 3)], [(1, 5), (1, 7)]]), (1, 210))
        self.assertEqual(measure(whole([[1, 2], [3, 4]])), (-2, 1))
        self.assertEqual(measure(whole([[2, 0, 1], [1, 3, 2], [1, 1, 1]])), (0, 1))
        self.assertEqual(measure(whole([[2, 0, 1], [1, 3, 2], [1, 1, 4]])), (18, 1))

    def test_against_the_sum_over_all_orders(self):
        for size in range(6):
            for seed in range(12):
                for bottoms in (1, 12):
                    table = made_up(size, seed + 100 * size, bottoms, 3 if seed % 2 else 0)
                    self.assertEqual(Fraction(*self.look_at(table)), crossed(table), table)

    def test_to_the_size_8(self):
        for size in range(6, 9):
            for seed in range(10):
                for holes in (0, 2, 4):
                    self.look_at(made_up(size, seed + 77 * size, 12, holes))
                    self.look_at(made_up(size, seed + 55 * size, 1, holes))

    def test_noughts_in_the_corner(self):
        self.assertEqual(measure(whole([[0, 1], [1, 0]])), (-1, 1))
        self.assertEqual(measure(whole([[0, 2], [3, 5]])), (-6, 1))
        self.assertEqual(measure(whole([[0, 0, 2], [0, 3, 1], [5, 1, 1]])), (-30, 1))
        self.assertEqual(measure(whole([[0, 2, 0], [0, 1, 3], [5, 1, 1]])), (30, 1))
        self.assertEqual(measure(whole([[0, 2, 1], [0, 4, 3], [0, 1, 1]])), (0, 1))
        self.assertEqual(measure(whole([[1, 2, 3], [2, 4, 1], [1, 1, 1]])), (-5, 1))
        for size in range(1, 9):
            turned = whole([[1 if i + j == size - 1 else 0 for j in range(size)] for i in range(size)])
            self.assertEqual(measure(turned), ((-1) ** (size * (size - 1) // 2), 1))
            for corner in range(1, size + 1):
                table = made_up(size, 13 * size + corner, 5)
                for i in range(corner):
                    table[i][:corner] = [(0, 1)] * corner
                self.look_at(table)

    def test_every_order_of_four(self):
        for order in permutations(range(4)):
            turns = sum(order[i] > order[j] for j in range(4) for i in range(j))
            table = whole([[1 if order[i] == j else 0 for j in range(4)] for i in range(4)])
            self.assertEqual(measure(table), ((-1) ** turns, 1))

    def test_two_rows_alike(self):
        for size in range(2, 9):
            for first in range(size):
                for second in range(first):
                    table = made_up(size, 31 * size + first, 12)
                    self.assertNotEqual(measure(table), (0, 1))
                    table[second] = list(table[first])
                    self.assertEqual(measure(table), (0, 1))
                    # The very same list, twice.
                    table[second] = table[first]
                    self.assertEqual(measure(table), (0, 1))

    def test_all_noughts(self):
        for size in range(1, 9):
            self.assertEqual(measure([[(0, 1)] * size for i in range(size)]), (0, 1))

    def test_numbers_of_seventy_figures(self):
        for size in (2, 5, 8):
            table = [
                [Fraction((-1) ** (i * j) * (10 ** 69 + 7 ** i * 5 ** j), 10 ** 70 - 3 ** i - 2 ** j).as_integer_ratio()
                 for j in range(size)] for i in range(size)]
            self.look_at(table)

    def test_the_table_handed_in_stays_and_may_be_changed(self):
        table = whole([[0, 2, 1], [3, 5, 1], [1, 1, 1]])
        rows = list(table)
        self.assertEqual(measure(table), (-6, 1))
        self.assertEqual(table, whole([[0, 2, 1], [3, 5, 1], [1, 1, 1]]))
        self.assertTrue(all(now is then for now, then in zip(table, rows, strict=True)))
        table[0][0] = (1, 2)
        self.assertEqual(measure(table), (-4, 1))


class MeasureOfMomentsTest(TablesCase):
    def test_it_is_a_product_of_downs(self):
        for weights in ALL:
            listed = moments(weights)
            downs = [Fraction(*number) for number in weights[1]]
            for size in range(len(downs) + 2):
                expected = prod((downs[h - 1] ** (size - h) for h in range(1, size)), start=Fraction(1))
                answer = measure(moment_table(listed, size))
                self.assert_fraction(answer)
                self.assertEqual(Fraction(*answer), expected, (weights, size))
                self.assertEqual(spread(moment_table(listed, size, 0)), expected)

    def test_with_shift_1_times_the_one_of_the_row_at_nought(self):
        for weights in ALL:
            listed = moments(weights)
            downs = [Fraction(*number) for number in weights[1]]
            row = row_of(weights)
            for size in range(len(downs) + 2):
                expected = prod((downs[h - 1] ** (size - h) for h in range(1, size)), start=Fraction(1))
                expected *= (-1) ** size * Fraction(*poly_value(row[size], (0, 1)))
                answer = measure(moment_table(listed, size, 1))
                self.assert_fraction(answer)
                self.assertEqual(Fraction(*answer), expected, (weights, size))

    def test_by_hand(self):
        listed = moments(weights_of([(1, 2), (-3, 1), (2, 1)], [(2, 1), (5, 1)]))
        self.assertEqual([measure(moment_table(listed, size)) for size in range(4)], [(1, 1), (1, 1), (2, 1), (20, 1)])
        self.assertEqual(
            [measure(moment_table(listed, size, 1)) for size in range(4)], [(1, 1), (1, 2), (-7, 1), (-190, 1)])
        # The moments of ones count ways; their measures are 1.
        listed = moments(ONES[7])
        self.assertEqual([measure(moment_table(listed, size)) for size in range(9)], [(1, 1)] * 9)

    def test_where_a_moment_is_not_there(self):
        for weights in MIXED:
            listed = moments(weights)
            size = len(weights[1]) + 1
            self.assertEqual(len(moment_table(listed, size, 1)), size)
            self.assert_refused(TooFar, moment_table, listed, size, 2)
            self.assert_refused(TooFar, moment_table, listed, size + 1)


if __name__ == "__main__":
    unittest.main()
