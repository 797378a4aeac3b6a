import unittest
from fractions import Fraction
from math import gcd

from heightfractions.polys import (
    degree_of, poly_minus, poly_of, poly_plus, poly_scaled, poly_times, poly_value,
)

ONE = ((1, 1),)
X = ((0, 1), (1, 1))
POLYS = [
    (),
    ONE,
    X,
    ((-1, 2),),
    ((1, 2), (-1, 1)),
    ((-1, 2), (1, 1)),
    ((1, 2), (0, 1), (2, 3)),
    ((1, 3), (5, 7), (-2, 3)),
    ((0, 1), (0, 1), (0, 1), (-7, 12)),
    ((12345678901234567890, 7), (-1, 98765432109876543210), (3, 1), (1, 6), (5, 4)),
]
POINTS = [(0, 1), (1, 1), (-1, 1), (2, 1), (-3, 2), (5, 7), (10 ** 40 + 1, 3)]


def plain(f):
    return [Fraction(top, bottom) for top, bottom in f]


def cut(numbers):
    while numbers and numbers[-1] == 0:
        numbers = numbers[:-1]
    return numbers


def summed(f, g, sign):
    many = max(len(f), len(g))
    f = plain(f) + [Fraction(0)] * (many - len(f))
    g = plain(g) + [Fraction(0)] * (many - len(g))
    return cut([a + sign * b for a, b in zip(f, g)])


def multiplied(f, g):
    answer = [Fraction(0)] * (len(f) + len(g))
    for i, a in enumerate(plain(f)):
        for j, b in enumerate(plain(g)):
            answer[i + j] += a * b
    return cut(answer)


class PolysTest(unittest.TestCase):
    def assert_fraction(self, number):
        self.assertIs(type(number), tuple)
        self.assertEqual([type(part) for part in number], [int, int])
        self.assertGreaterEqual(number[1], 1)
        self.assertEqual(gcd(*number), 1)

    def assert_poly(self, answer, expected):
        """The answer is a polynomial by its form, and is the one expected."""
        self.assertIs(type(answer), tuple)
        for number in answer:
            self.assert_fraction(number)
        if answer:
            self.assertNotEqual(answer[-1], (0, 1))
        self.assertEqual(plain(answer), expected)

    def test_made_of_lists_and_tuples(self):
        for f in POLYS:
            for many in range(4):
                numbers = list(f) + [(0, 1)] * many
                self.assert_poly(poly_of(numbers), plain(f))
                self.assert_poly(poly_of(tuple(numbers)), plain(f))
                self.assertEqual(poly_of(numbers), f)

    def test_only_noughts_and_none(self):
        self.assertEqual(poly_of([]), ())
        self.assertEqual(poly_of(()), ())
        self.assertEqual(poly_of([(0, 1)]), ())
        self.assertEqual(poly_of(((0, 1),)), ())
        self.assertEqual(poly_of([(0, 1)] * 100), ())

    def test_noughts_ahead_and_within_stay(self):
        numbers = [(0, 1), (1, 2), (0, 1), (0, 1), (-1, 3), (0, 1)]
        self.assertEqual(poly_of(numbers), ((0, 1), (1, 2), (0, 1), (0, 1), (-1, 3)))

    def test_what_is_handed_in_stays_and_later_change_changes_nothing(self):
        numbers = [(1, 2), (3, 1), (0, 1)]
        f = poly_of(numbers)
        self.assertEqual(numbers, [(1, 2), (3, 1), (0, 1)])
        numbers[0] = (9, 1)
        numbers.append((4, 1))
        self.assertEqual(f, ((1, 2), (3, 1)))

    def test_degree(self):
        self.assertEqual(degree_of(()), -1)
        self.assertEqual(degree_of(ONE), 0)
        self.assertEqual(degree_of(X), 1)
        self.assertEqual(degree_of(((0, 1), (0, 1), (0, 1), (-7, 12))), 3)
        self.assertIs(type(degree_of(())), int)

    def test_sum_difference_product_against_python(self):
        for f in POLYS:
            for g in POLYS:
                self.assert_poly(poly_plus(f, g), summed(f, g, 1))
                self.assert_poly(poly_minus(f, g), summed(f, g, -1))
                self.assert_poly(poly_times(f, g), multiplied(f, g))

    def test_last_numbers_cancel(self):
        self.assertEqual(poly_plus(((1, 2), (1, 3)), ((1, 2), (-1, 3))), ONE)
        self.assertEqual(poly_minus(((1, 2), (1, 3)), ((-1, 2), (1, 3))), ONE)
        self.assertEqual(poly_plus(((1, 1), (0, 1), (2, 1)), ((1, 1), (0, 1), (-2, 1))), ((2, 1),))
        for f in POLYS:
            self.assertEqual(poly_minus(f, f), ())
            self.assertEqual(poly_plus(f, poly_scaled(f, (-1, 1))), ())

    def test_first_less_second(self):
        self.assertEqual(poly_minus(X, ONE), ((-1, 1), (1, 1)))
        self.assertEqual(poly_minus(ONE, X), ((1, 1), (-1, 1)))
        self.assertEqual(poly_minus((), X), ((0, 1), (-1, 1)))

    def test_product_by_hand_and_with_nought(self):
        self.assertEqual(poly_times(((1, 1), (1, 1)), ((-1, 1), (1, 1))), ((-1, 1), (0, 1), (1, 1)))
        for f in POLYS:
            self.assertEqual(poly_times(f, ()), ())
            self.assertEqual(poly_times((), f), ())
            self.assertEqual(poly_times(f, ONE), f)
            self.assertEqual(degree_of(poly_times(f, X)), degree_of(f) + 1 if f else -1)

    def test_times_a_fraction(self):
        for f in POLYS:
            for a in POINTS:
                self.assert_poly(poly_scaled(f, a), cut([n * Fraction(*a) for n in plain(f)]))
            self.assertEqual(poly_scaled(f, (0, 1)), ())
        self.assertEqual(poly_scaled(((1, 2), (-3, 1)), (2, 3)), ((1, 3), (-2, 1)))

    def test_value_at_a_fraction(self):
        for f in POLYS:
            for a in POINTS:
                answer = poly_value(f, a)
                self.assert_fraction(answer)
                expected = sum(n * Fraction(*a) ** power for power, n in enumerate(plain(f)))
                self.assertEqual(Fraction(*answer), expected)
        self.assertEqual(poly_value(((1, 2), (-3, 1)), (2, 3)), (-3, 2))

    def test_value_of_nought(self):
        for a in POINTS:
            self.assertEqual(poly_value((), a), (0, 1))

    def test_hundred_numbers_of_seventy_figures(self):
        f = tuple((10 ** 69 + 7 * n, 10 ** 69 + 6 * n + 1) for n in range(100))
        f = poly_of([number for number in f if gcd(*number) == 1])
        square = poly_times(f, f)
        self.assertEqual(degree_of(square), 2 * degree_of(f))
        value = Fraction(*poly_value(f, (2, 3)))
        self.assertEqual(Fraction(*poly_value(square, (2, 3))), value * value)


if __name__ == "__main__":
    unittest.main()
