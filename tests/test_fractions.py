import re
import unittest
from fractions import Fraction
from itertools import product
from math import gcd

from heightfractions.errors import HeightError, NoFraction, NoText
from heightfractions.fractions import (
    fraction, fraction_read, minus, over, plus, times, written,
)

FORTY = 1234567890123456789012345678901234567890
SEVENTY = 7 * 10 ** 69 + 3 ** 40

SMALL = [
    fraction(top, bottom) for top in range(-7, 8) for bottom in range(1, 8)
    if gcd(top, bottom) == 1
]
LARGE = [
    fraction(FORTY, 77), fraction(-FORTY, FORTY + 1), fraction(SEVENTY, FORTY),
    fraction(-1, SEVENTY), fraction(SEVENTY - 1, SEVENTY), fraction(6, FORTY),
]


def reads(text):
    """Whether the text is a fraction's, by another road than the program's."""
    found = re.fullmatch("-?(0|[1-9][0-9]*)(?:/([1-9][0-9]*))?", text)
    if found is None or text == "-0":
        return False
    return found[2] is None or found[2] != "1" and gcd(int(found[1]), int(found[2])) == 1


class FractionCase(unittest.TestCase):
    def assert_fraction(self, answer, expected):
        """The answer is a fraction by its form, and is the one expected."""
        self.assertIs(type(answer), tuple)
        self.assertEqual([type(number) for number in answer], [int, int])
        self.assertGreaterEqual(answer[1], 1)
        self.assertEqual(gcd(answer[0], answer[1]), 1)
        self.assertEqual(Fraction(answer[0], answer[1]), expected)

    def assert_no_text(self, thing):
        with self.subTest(repr(thing)[:60]), self.assertRaises(NoText) as taken:
            fraction_read(thing)
        self.assertEqual(taken.exception.part, 0)


class MadeTest(FractionCase):
    def test_of_either_sign_and_shared_parts(self):
        for top in range(-30, 31):
            for bottom in range(-30, 31):
                if bottom != 0:
                    self.assert_fraction(fraction(top, bottom), Fraction(top, bottom))

    def test_some_by_hand(self):
        self.assertEqual(fraction(6, 4), (3, 2))
        self.assertEqual(fraction(-6, 4), (-3, 2))
        self.assertEqual(fraction(6, -4), (-3, 2))
        self.assertEqual(fraction(-6, -4), (3, 2))
        self.assertEqual(fraction(12, 4), (3, 1))
        self.assertEqual(fraction(4, 12), (1, 3))

    def test_nought(self):
        for bottom in (1, -1, 5, -5, FORTY, -SEVENTY):
            self.assertEqual(fraction(0, bottom), (0, 1))

    def test_many_figures(self):
        numbers = (FORTY, SEVENTY, FORTY * 6, SEVENTY * 15, FORTY * SEVENTY, 10 ** 69)
        for top in numbers:
            for bottom in numbers:
                self.assert_fraction(fraction(top, bottom), Fraction(top, bottom))
                self.assert_fraction(fraction(top, -bottom), Fraction(-top, bottom))
        self.assertEqual(fraction(FORTY * 6, FORTY * 4), (3, 2))

    def test_bottom_0_is_refused(self):
        for top in (0, 1, -1, FORTY):
            with self.assertRaises(NoFraction):
                fraction(top, 0)

    def test_what_is_no_whole_number_is_refused(self):
        for wrong in (True, False, None, "1", "", 1.0, 0.5, (1, 2), [1], {}, Fraction(1, 2)):
            with self.subTest(wrong):
                with self.assertRaises(NoFraction):
                    fraction(wrong, 2)
                with self.assertRaises(NoFraction):
                    fraction(2, wrong)
                with self.assertRaises(NoFraction):
                    fraction(wrong, 0)

    def test_what_was_told_may_be_handed_in_again(self):
        for top, bottom in SMALL + LARGE:
            self.assertEqual(fraction(top, bottom), (top, bottom))


class ReckonedTest(FractionCase):
    def test_all_four_against_python(self):
        for a in SMALL + LARGE:
            for b in SMALL[::3] + LARGE:
                p = Fraction(*a)
                q = Fraction(*b)
                self.assert_fraction(plus(a, b), p + q)
                self.assert_fraction(minus(a, b), p - q)
                self.assert_fraction(times(a, b), p * q)
                if b != (0, 1):
                    self.assert_fraction(over(a, b), p / q)

    def test_some_by_hand(self):
        self.assertEqual(plus((1, 6), (1, 3)), (1, 2))
        self.assertEqual(plus((5, 6), (1, 6)), (1, 1))
        self.assertEqual(minus((1, 3), (1, 2)), (-1, 6))
        self.assertEqual(times((2, 3), (-3, 4)), (-1, 2))
        self.assertEqual(over((1, 2), (3, 4)), (2, 3))
        self.assertEqual(over((1, 2), (-3, 4)), (-2, 3))
        self.assertEqual(over((-1, 2), (-3, 1)), (1, 6))

    def test_nought_is_told_as_nought(self):
        for a in SMALL + LARGE:
            self.assertEqual(minus(a, a), (0, 1))
            self.assertEqual(plus(a, (-a[0], a[1])), (0, 1))
            self.assertEqual(times(a, (0, 1)), (0, 1))
            self.assertEqual(times((0, 1), a), (0, 1))
            if a != (0, 1):
                self.assertEqual(over((0, 1), a), (0, 1))

    def test_by_nought_is_refused(self):
        for a in SMALL + LARGE:
            with self.assertRaises(NoFraction):
                over(a, (0, 1))

    def test_long_sums(self):
        answer = (0, 1)
        expected = Fraction(0)
        for bottom in range(1, 200):
            answer = plus(answer, (1, bottom))
            expected += Fraction(1, bottom)
        self.assert_fraction(answer, expected)
        for bottom in range(1, 200):
            answer = minus(answer, (1, bottom))
        self.assertEqual(answer, (0, 1))


class TextTest(FractionCase):
    def test_written(self):
        self.assertEqual(written((0, 1)), "0")
        self.assertEqual(written((5, 1)), "5")
        self.assertEqual(written((-5, 1)), "-5")
        self.assertEqual(written((3, 4)), "3/4")
        self.assertEqual(written((-3, 4)), "-3/4")
        self.assertEqual(written((100, 7)), "100/7")
        self.assertEqual(written((-FORTY, 7)), "-1234567890123456789012345678901234567890/7")

    def test_written_of_each_number_of_figures(self):
        for many in range(1, 200):
            self.assertEqual(written((10 ** many, 1)), "1" + "0" * many)
            self.assertEqual(written((1, 10 ** many - 1)), "1/" + "9" * many)
            self.assertEqual(written((-(10 ** many) - 7, 1)), "-1" + "7".rjust(many, "0"))

    def test_written_of_more_figures_than_python_writes_at_once(self):
        a = (10 ** 50, 7)
        for turn in range(8):
            a = times(a, a)
        self.assertEqual(written(a), "1" + "0" * 12800 + "/" + str(7 ** 256))
        self.assertEqual(written(minus((0, 1), over((1, 1), a))), "-" + str(7 ** 256) + "/1" + "0" * 12800)

    def test_written_and_read_back(self):
        for a in SMALL + [fraction(10 ** 29, 3), fraction(-7, 10 ** 29), fraction(10 ** 30 - 1, 10 ** 29)]:
            self.assertEqual(fraction_read(written(a)), a)
            self.assert_fraction(fraction_read(written(a)), Fraction(*a))

    def test_read(self):
        for text, expected in (
            ("0", (0, 1)), ("7", (7, 1)), ("-7", (-7, 1)), ("10", (10, 1)),
            ("1/2", (1, 2)), ("-1/2", (-1, 2)), ("3/10", (3, 10)), ("-20/9", (-20, 9)),
        ):
            self.assertEqual(fraction_read(text), expected)

    def test_every_text_of_at_most_four_signs(self):
        for many in range(5):
            for signs in product("-/0124 ", repeat=many):
                text = "".join(signs)
                if reads(text):
                    self.assert_fraction(fraction_read(text), Fraction(text))
                    self.assertEqual(written(fraction_read(text)), text)
                else:
                    self.assert_no_text(text)

    def test_thirty_figures_and_one_more(self):
        nines = "9" * 30
        tens = "1" + "0" * 29
        self.assertEqual(fraction_read(nines), (10 ** 30 - 1, 1))
        self.assertEqual(fraction_read("-" + nines), (1 - 10 ** 30, 1))
        self.assertEqual(fraction_read("1/" + tens), (1, 10 ** 29))
        self.assertEqual(fraction_read(nines + "/" + tens), (10 ** 30 - 1, 10 ** 29))
        self.assertEqual(fraction_read("-" + nines + "/" + tens), (1 - 10 ** 30, 10 ** 29))
        for text in ("9" + nines, "-9" + nines, "1/9" + nines, nines + "/" + tens + "0", tens + "0/7", "1" * 5000):
            self.assert_no_text(text)

    def test_written_otherwise_is_refused(self):
        for text in (
            "00", "01", "-01", "007", "1/02", "01/2", "-0", "-00", "-0/2", "0/2", "0/1", "2/4", "-2/4",
            "4/2", "10/5", "1/0", "0/0", "-1/0", "1/1", "5/1", "-5/1", "1/00", "1/01",
        ):
            self.assert_no_text(text)

    def test_signs_that_do_not_belong_are_refused(self):
        for text in (
            "", "-", "/", "-/", "1/", "/2", "-/2", "1/-2", "-1/-2", "--1", "+1", "1+", "1-", "1/+2", "1//2",
            "1/2/3", " 1", "1 ", "1 /2", "1/ 2", "- 1", " ", "1\n", "\n1", "1\t", "1 2", "1_0", "1.0", "1.5", "1e3",
            "a", "0x1", "one", "None", "\u0661", "\u00b2", "\uff11", "1/\u0662", "\u22121", "1\u20442",
        ):
            self.assert_no_text(text)

    def test_what_is_no_text_is_refused(self):
        for thing in (
            None, True, False, 0, 1, -3, 1.5, (1, 2), [1, 2], ["1"], ("1",), {}, {"1": 1}, b"1", object(), str,
            Fraction(1, 2), {1},
        ):
            self.assert_no_text(thing)

    def test_the_refusal_is_a_height_error(self):
        with self.assertRaises(HeightError):
            fraction_read("x")


if __name__ == "__main__":
    unittest.main()
