import inspect
import unittest
from fractions import Fraction
from itertools import product
from math import gcd

from heightfractions import weights as weights_file
from heightfractions.errors import NoWay, NoWeights, TooHigh
from heightfractions.weights import weight_of, weights_of

LEVELS = [(1, 2), (-3, 1), (5, 7), (2, 3), (-1, 12), (999998, 11), (4, 1), (7, 5)]
DOWNS = [(2, 1), (-1, 3), (7, 4), (11, 1), (13, 6), (-5, 9), (999997, 12)]
TO_2 = (((1, 2), (-3, 1), (5, 7)), ((2, 1), (-1, 3)))
WITH_NOUGHTS = (((0, 1), (3, 1), (0, 1)), ((2, 1), (0, 1)))


def made(k):
    return weights_of(LEVELS[:k + 1], DOWNS[:k])


def weighed(weights, text, first):
    """What is told of a text: ("weight", a fraction), ("no way", a place) or ("too high", a height)."""
    heights = [first]
    for at, sign in enumerate(text):
        if sign not in "uld" or heights[-1] == 0 and sign == "d":
            return ("no way", at)
        heights.append(heights[-1] + "dlu".index(sign) - 1)
    weight = Fraction(1)
    for sign, height in zip(text, heights):
        if sign != "u" and height > len(weights[1]):
            return ("too high", height)
        if sign == "l":
            weight *= Fraction(*weights[0][height])
        if sign == "d":
            weight *= Fraction(*weights[1][height - 1])
    return ("weight", weight)


class MadeTest(unittest.TestCase):
    def assert_no_weights(self, levels, downs):
        with self.subTest((len(levels), len(downs))), self.assertRaises(NoWeights) as taken:
            weights_of(levels, downs)
        self.assertIs(type(taken.exception), NoWeights)

    def test_names_arguments_and_what_may_be_left_out(self):
        self.assertEqual(str(inspect.signature(weights_file.weights_of)), "(levels, downs)")
        self.assertEqual(str(inspect.signature(weights_file.weight_of)), "(weights, way, first=0)")

    def test_of_each_height(self):
        for k in range(8):
            answer = weights_of(LEVELS[:k + 1], DOWNS[:k])
            self.assertEqual(answer, (tuple(LEVELS[:k + 1]), tuple(DOWNS[:k])))
            self.assertEqual([type(part) for part in (answer,) + answer], [tuple, tuple, tuple])
            self.assertEqual((len(answer[0]), len(answer[1])), (k + 1, k))

    def test_by_hand(self):
        self.assertEqual(weights_of([(1, 2)], []), (((1, 2),), ()))
        self.assertEqual(weights_of([(1, 2), (-3, 1), (5, 7)], [(2, 1), (-1, 3)]), TO_2)

    def test_nought_is_a_weight_too(self):
        self.assertEqual(weights_of([(0, 1)], []), (((0, 1),), ()))
        self.assertEqual(weights_of([(0, 1), (3, 1), (0, 1)], [(2, 1), (0, 1)]), WITH_NOUGHTS)
        self.assertEqual(weights_of([(0, 1)] * 8, [(0, 1)] * 7), (((0, 1),) * 8, ((0, 1),) * 7))

    def test_every_number_of_levels_and_downs(self):
        for many in range(12):
            for downs in range(12):
                if not (many == downs + 1 and 1 <= many <= 8):
                    self.assert_no_weights([(1, 1)] * many, [(1, 1)] * downs)

    def test_some_that_are_refused(self):
        self.assert_no_weights([], [])
        self.assert_no_weights([], [(1, 1)])
        self.assert_no_weights([(1, 1)] * 9, [(1, 1)] * 8)
        self.assert_no_weights([(1, 1)] * 3, [(1, 1)] * 3)
        self.assert_no_weights([(1, 1)] * 3, [(1, 1)])
        self.assert_no_weights([(1, 1)] * 100, [(1, 1)] * 99)

    def test_the_lists_stay_and_may_be_changed_behind_it(self):
        levels = [(1, 2), (3, 1)]
        downs = [(5, 1)]
        answer = weights_of(levels, downs)
        self.assertEqual((levels, downs), ([(1, 2), (3, 1)], [(5, 1)]))
        levels[0] = (9, 1)
        levels.append((4, 1))
        downs.clear()
        self.assertEqual(answer, (((1, 2), (3, 1)), ((5, 1),)))
        self.assertEqual(weight_of(answer, "ludl"), (5, 4))

    def test_refused_lists_stay(self):
        levels = [(1, 2)] * 9
        downs = [(5, 1)] * 3
        self.assert_no_weights(levels, downs)
        self.assertEqual((levels, downs), ([(1, 2)] * 9, [(5, 1)] * 3))


class WeightTest(unittest.TestCase):
    def assert_told(self, weights, text, first, expected):
        if expected[0] == "weight":
            answer = weight_of(weights, text, first)
            self.assertIs(type(answer), tuple)
            self.assertEqual([type(number) for number in answer], [int, int])
            self.assertTrue(answer[1] >= 1 and gcd(*answer) == 1)
            self.assertEqual(Fraction(*answer), expected[1], (weights, text, first))
        elif expected[0] == "no way":
            with self.assertRaises(NoWay) as taken:
                weight_of(weights, text, first)
            self.assertIs(type(taken.exception), NoWay)
            self.assertEqual(taken.exception.at, expected[1], (weights, text, first))
        else:
            with self.assertRaises(TooHigh) as taken:
                weight_of(weights, text, first)
            self.assertIs(type(taken.exception), TooHigh)
            self.assertEqual(taken.exception.height, expected[1], (weights, text, first))
            self.assertIs(type(taken.exception.height), int)

    def test_by_hand(self):
        self.assertEqual(weight_of(TO_2, "l"), (1, 2))
        self.assertEqual(weight_of(TO_2, "ud"), (2, 1))
        self.assertEqual(weight_of(TO_2, "uld"), (-6, 1))
        self.assertEqual(weight_of(TO_2, "uulddl"), (-5, 21))
        self.assertEqual(weight_of(TO_2, "uuu"), (1, 1))
        self.assertEqual(weight_of(TO_2, "uu"), (1, 1))

    def test_the_text_without_signs(self):
        for weights in (TO_2, WITH_NOUGHTS, made(0), made(7)):
            self.assertEqual(weight_of(weights, ""), (1, 1))
            for first in range(9):
                self.assertEqual(weight_of(weights, "", first), (1, 1))

    def test_at_several_first_heights_and_ends(self):
        self.assertEqual(weight_of(TO_2, "l", 2), (5, 7))
        self.assertEqual(weight_of(TO_2, "d", 2), (-1, 3))
        self.assertEqual(weight_of(TO_2, "dd", 2), (-2, 3))
        self.assertEqual(weight_of(TO_2, "dl", 2), (1, 1))
        self.assertEqual(weight_of(TO_2, "lu", 1), (-3, 1))
        self.assertEqual(weight_of(TO_2, "uuuu", 8), (1, 1))

    def test_every_short_text_at_every_first_height(self):
        for weights in (made(0), made(1), TO_2, WITH_NOUGHTS, made(4)):
            for length in range(6):
                for signs in product("uldx", repeat=length):
                    for first in range(6):
                        text = "".join(signs)
                        self.assert_told(weights, text, first, weighed(weights, text, first))

    def test_fifteen_steps_to_the_height_7(self):
        weights = made(7)
        for text in ("uuuuuuulddddddd", "ululululdldldld", "lllllllllllllll", "uldududuldlddll", "uuudddlllldulud"):
            self.assert_told(weights, text, 0, weighed(weights, text, 0))
        for text in ("lllllllllllllll", "dldldldldldldll", "duduldulduldudl"):
            self.assert_told(weights, text, 7, weighed(weights, text, 7))

    def test_nought_weighs_nought(self):
        self.assertEqual(weight_of(WITH_NOUGHTS, "l"), (0, 1))
        self.assertEqual(weight_of(WITH_NOUGHTS, "uld"), (6, 1))
        self.assertEqual(weight_of(WITH_NOUGHTS, "uuddl"), (0, 1))

    def test_a_level_step_and_a_step_down_above_k(self):
        self.assert_told(TO_2, "uuul", 0, ("too high", 3))
        self.assert_told(TO_2, "uuud", 0, ("too high", 3))
        self.assert_told(TO_2, "l", 3, ("too high", 3))
        self.assert_told(TO_2, "d", 3, ("too high", 3))
        self.assert_told(TO_2, "d", 8, ("too high", 8))
        self.assert_told(made(0), "ul", 0, ("too high", 1))
        self.assert_told(made(0), "ud", 0, ("too high", 1))
        self.assert_told(made(7), "l", 8, ("too high", 8))
        self.assert_told(made(7), "d", 8, ("too high", 8))

    def test_the_first_such_step(self):
        self.assert_told(TO_2, "uuuulld", 0, ("too high", 4))
        self.assert_told(TO_2, "dddd", 5, ("too high", 5))
        self.assert_told(TO_2, "uldl", 3, ("too high", 4))

    def test_too_high_behind_a_weight_that_is_nought(self):
        self.assert_told(WITH_NOUGHTS, "luuul", 0, ("too high", 3))
        self.assert_told(WITH_NOUGHTS, "luuud", 0, ("too high", 3))

    def test_no_way_goes_ahead_of_too_high(self):
        self.assert_told(TO_2, "uuulx", 0, ("no way", 4))
        self.assert_told(TO_2, "lx", 5, ("no way", 1))
        self.assert_told(TO_2, "uuuddddu", 0, ("no way", 6))
        self.assert_told(made(0), "uldd", 0, ("no way", 3))
        self.assert_told(TO_2, "d", 0, ("no way", 0))
        self.assert_told(TO_2, "ux", 0, ("no way", 1))


if __name__ == "__main__":
    unittest.main()
