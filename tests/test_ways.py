import inspect
import unittest
from collections import Counter
from itertools import product

from heightfractions import ways
from heightfractions.errors import NoNumber, NoWay, TooMany
from heightfractions.ways import heights_of, number_of, way_by, ways_counted, ways_listed

FROM_0_TO_0 = (1, 1, 2, 4, 9, 21, 51, 127, 323, 835, 2188, 5798, 15511, 41835, 113634, 310572)
SIGNS = "".join(chr(number) for number in range(32, 127) if chr(number) != chr(37))
BELOWS = (None, 0, 1, 2, 3, 4, 5, 6, 7, 8, 9)


def walked(text, first):
    """The heights of a text of the signs u, l, d, even where it falls below nought."""
    heights = [first]
    for sign in text:
        heights.append(heights[-1] + {"u": 1, "l": 0, "d": -1}[sign])
    return heights


def texts(length):
    return ["".join(signs) for signs in product("dlu", repeat=length)]


def went(length, first):
    """(text, last height, greatest height) of each way of the length, the texts gone through one by one."""
    rows = []
    for text in texts(length):
        heights = walked(text, first)
        if min(heights) >= 0:
            rows.append((text, heights[-1], max(heights)))
    return rows


class WaysCase(unittest.TestCase):
    def assert_no_way(self, at, asked, *handed):
        with self.subTest(repr(handed)), self.assertRaises(NoWay) as taken:
            asked(*handed)
        self.assertIs(type(taken.exception), NoWay)
        self.assertEqual(taken.exception.at, at)
        self.assertIs(type(taken.exception.at), int)


class InterfaceTest(unittest.TestCase):
    def test_names_arguments_and_what_may_be_left_out(self):
        for name, arguments in (
            ("heights_of", "(way, first=0, last=0)"),
            ("ways_counted", "(length, first=0, last=0, below=None)"),
            ("ways_listed", "(length, first=0, last=0, below=None)"),
            ("number_of", "(way)"),
            ("way_by", "(length, number)"),
        ):
            self.assertEqual(str(inspect.signature(getattr(ways, name))), arguments)


class HeightsTest(WaysCase):
    def test_by_hand(self):
        self.assertEqual(heights_of("uld"), (0, 1, 1, 0))
        self.assertEqual(heights_of("uudlud", 0, 1), (0, 1, 2, 1, 1, 2, 1))
        self.assertEqual(heights_of("ddl", 2), (2, 1, 0, 0))
        self.assertEqual(heights_of("uu", 3, 5), (3, 4, 5))
        self.assertEqual(heights_of("lll", 8, 8), (8, 8, 8, 8))
        self.assertEqual(heights_of("uuuuuuudddddddl"), (0, 1, 2, 3, 4, 5, 6, 7, 6, 5, 4, 3, 2, 1, 0, 0))

    def test_the_text_without_signs(self):
        self.assertEqual(heights_of(""), (0,))
        for height in range(9):
            self.assertEqual(heights_of("", height, height), (height,))
        self.assert_no_way(0, heights_of, "", 1)
        self.assert_no_way(0, heights_of, "", 0, 1)
        self.assert_no_way(0, heights_of, "", 4, 3)

    def test_the_kind_of_what_is_told(self):
        for text in ("", "l", "ud"):
            answer = heights_of(text)
            self.assertIs(type(answer), tuple)
            self.assertEqual({type(height) for height in answer}, {int})

    def test_every_text_from_and_to_several_heights(self):
        for length in range(7):
            for first in range(4):
                for text in texts(length):
                    heights = walked(text, first)
                    if min(heights) < 0:
                        at = [height < 0 for height in heights].index(True) - 1
                        for last in (0, heights[-1], 2):
                            self.assert_no_way(at, heights_of, text, first, last)
                    else:
                        self.assertEqual(heights_of(text, first, heights[-1]), tuple(heights))
                        self.assert_no_way(length, heights_of, text, first, heights[-1] + 1)

    def test_a_fall_below_nought(self):
        self.assert_no_way(0, heights_of, "d")
        self.assert_no_way(0, heights_of, "du")
        self.assert_no_way(2, heights_of, "uddu")
        self.assert_no_way(4, heights_of, "luldddu")
        self.assert_no_way(3, heights_of, "dddd", 3)

    def test_an_end_at_another_height(self):
        self.assert_no_way(1, heights_of, "u")
        self.assert_no_way(3, heights_of, "uul")
        self.assert_no_way(2, heights_of, "ud", 0, 1)
        self.assert_no_way(2, heights_of, "ud", 1)
        self.assert_no_way(15, heights_of, "l" * 14 + "u")

    def test_every_sign_that_is_none(self):
        for sign in SIGNS:
            if sign not in "uld":
                self.assert_no_way(0, heights_of, sign)
                self.assert_no_way(2, heights_of, "ud" + sign)
                self.assert_no_way(1, heights_of, "u" + sign + "d")

    def test_which_place_goes_first(self):
        self.assert_no_way(0, heights_of, "dx")
        self.assert_no_way(0, heights_of, "xd")
        self.assert_no_way(1, heights_of, "uxdd")
        self.assert_no_way(2, heights_of, "uddx")
        self.assert_no_way(3, heights_of, "uuuUdddd")
        self.assert_no_way(1, heights_of, "ld", 0, 5)
        self.assert_no_way(1, heights_of, "u ", 0, 5)
        self.assert_no_way(14, heights_of, "l" * 14 + "d", 0, 3)


class CountedTest(unittest.TestCase):
    def test_against_texts_gone_through_one_by_one(self):
        for length in range(8):
            for first in range(9):
                rows = went(length, first)
                for below in BELOWS:
                    kept = Counter(last for text, last, most in rows if below is None or most < below)
                    for last in range(9):
                        answer = ways_counted(length, first, last, below)
                        self.assertEqual(answer, kept[last], (length, first, last, below))
                        self.assertIs(type(answer), int)

    def test_every_length_from_0_to_0(self):
        for length, expected in enumerate(FROM_0_TO_0):
            self.assertEqual(ways_counted(length), expected)
            self.assertEqual(ways_counted(length, 0, 0), expected)
            self.assertEqual(ways_counted(length, 0, 0, None), expected)
            # A way of fifteen steps from 0 to 0 never comes above 7.
            self.assertEqual(ways_counted(length, 0, 0, 8), expected)

    def test_the_length_0(self):
        for first in range(9):
            for last in range(9):
                for below in BELOWS:
                    fits = first == last and (below is None or first < below)
                    self.assertEqual(ways_counted(0, first, last, below), 1 if fits else 0)

    def test_below_not_greater_than_both_heights(self):
        for length in range(16):
            for below in range(10):
                for first in range(9):
                    for last in range(9):
                        if below <= max(first, last):
                            self.assertEqual(ways_counted(length, first, last, below), 0)
                            self.assertEqual(ways_listed(length, first, last, below), [])

    def test_below_one_and_two(self):
        for length in range(1, 16):
            self.assertEqual(ways_counted(length, 0, 0, 1), 1)
            self.assertEqual(ways_counted(length, 0, 0, 2), 2 ** (length - 1))
            self.assertEqual(ways_counted(length, 0, 1, 2), 2 ** (length - 1))
            self.assertEqual(ways_counted(length, 0, 0, 0), 0)

    def test_as_many_there_as_back(self):
        for length in range(16):
            for first in range(9):
                for last in range(first):
                    for below in (None, 5, 9):
                        there = ways_counted(length, first, last, below)
                        self.assertEqual(there, ways_counted(length, last, first, below))

    def test_somewhat_beyond_nothing_is_refused(self):
        self.assertEqual(ways_counted(16), 853467)
        self.assertEqual(ways_counted(20), 50852019)
        self.assertEqual(ways_counted(3, 12, 13, None), 6)
        self.assertEqual(ways_counted(1, 12, 13, 14), 1)
        self.assertEqual(ways_counted(-1), 0)
        self.assertEqual(ways_counted(2, -1, 0), 0)
        self.assertEqual(ways_counted(2, 0, -1), 0)
        self.assertEqual(ways_counted(2, 0, 0, -1), 0)


class ListedTest(unittest.TestCase):
    def test_against_texts_gone_through_one_by_one(self):
        for length in range(7):
            for first in range(9):
                rows = went(length, first)
                for below in BELOWS:
                    for last in range(9):
                        kept = [text for text, end, most in rows if end == last and (below is None or most < below)]
                        if len(kept) <= 400:
                            answer = ways_listed(length, first, last, below)
                            self.assertIs(type(answer), list)
                            self.assertEqual(answer, sorted(kept), (length, first, last, below))

    def test_by_hand(self):
        self.assertEqual(ways_listed(0), [""])
        self.assertEqual(ways_listed(0, 3, 3), [""])
        self.assertEqual(ways_listed(0, 3, 2), [])
        self.assertEqual(ways_listed(3), ["lll", "lud", "udl", "uld"])
        self.assertEqual(ways_listed(2, 1, 1), ["du", "ll", "ud"])
        self.assertEqual(ways_listed(2, 1, 1, 2), ["du", "ll"])
        self.assertEqual(ways_listed(1, 0, 1), ["u"])
        self.assertEqual(ways_listed(1, 0, 2), [])
        self.assertEqual(ways_listed(15, 0, 0, 1), ["l" * 15])

    def test_sorted_each_once_as_many_as_counted_or_too_many(self):
        for length in range(16):
            for first in range(0, 9, 2):
                for last in range(9):
                    for below in (None, 2, 3, 6, 9):
                        many = ways_counted(length, first, last, below)
                        if many > 400:
                            with self.assertRaises(TooMany) as taken:
                                ways_listed(length, first, last, below)
                            self.assertIs(type(taken.exception), TooMany)
                        else:
                            answer = ways_listed(length, first, last, below)
                            self.assertEqual(len(answer), many)
                            self.assertEqual(answer, sorted(set(answer)))
                            for way in answer:
                                self.assertEqual(len(way), length)
                                heights = heights_of(way, first, last)
                                self.assertTrue(below is None or max(heights) < below)

    def test_four_hundred_and_one_more(self):
        # Just one of the many steps is level, so there are as many ways as steps.
        self.assertEqual(ways_counted(400, 0, 399), 400)
        self.assertEqual(len(ways_listed(400, 0, 399)), 400)
        self.assertEqual(ways_counted(401, 0, 400), 401)
        with self.assertRaises(TooMany):
            ways_listed(401, 0, 400)

    def test_nearest_to_four_hundred_within_the_bounds(self):
        self.assertEqual(len(ways_listed(7, 4, 4)), 393)
        self.assertEqual(len(ways_listed(8, 3, 0)), 392)
        self.assertEqual(len(ways_listed(8)), 323)
        for handed in ((8, 0, 1, 3), (9, 1, 6, 8), (9, 1, 6), (9,), (15,), (10, 0, 0, 2), (15, 8, 8, 9)):
            with self.subTest(handed), self.assertRaises(TooMany):
                ways_listed(*handed)

    def test_a_new_list_each_time(self):
        first = ways_listed(3)
        second = ways_listed(3)
        self.assertIsNot(first, second)
        first.append("x")
        first[0] = "y"
        self.assertEqual(second, ["lll", "lud", "udl", "uld"])
        self.assertEqual(ways_listed(3), ["lll", "lud", "udl", "uld"])
        self.assertIsNot(ways_listed(1, 0, 2), ways_listed(1, 0, 2))


class NumberedTest(WaysCase):
    def assert_no_number(self, length, number):
        with self.subTest((length, number)), self.assertRaises(NoNumber) as taken:
            way_by(length, number)
        self.assertIs(type(taken.exception), NoNumber)

    def test_each_way_by_its_number_and_back(self):
        for length in range(9):
            listed = sorted(text for text, last, most in went(length, 0) if last == 0)
            for number, way in enumerate(listed):
                self.assertEqual(number_of(way), number)
                self.assertIs(type(number_of(way)), int)
                self.assertEqual(way_by(length, number), way)
                self.assertIs(type(way_by(length, number)), str)

    def test_in_the_order_of_the_texts_at_every_length(self):
        for length in range(9, 16):
            many = FROM_0_TO_0[length]
            numbers = list(range(0, many, many // 97)) + [many - 1]
            told = [way_by(length, number) for number in numbers]
            self.assertEqual(told, sorted(set(told)))
            self.assertEqual([number_of(way) for way in told], numbers)
            for way in told:
                self.assertEqual(len(way), length)
                self.assertEqual(heights_of(way)[-1], 0)

    def test_first_and_last(self):
        for length in range(1, 16):
            half = length // 2
            self.assertEqual(way_by(length, 0), "l" * length)
            last = "u" * half + "l" * (length % 2) + "d" * half
            self.assertEqual(way_by(length, FROM_0_TO_0[length] - 1), last)
            self.assertEqual(number_of(last), FROM_0_TO_0[length] - 1)
        self.assertEqual(way_by(0, 0), "")
        self.assertEqual(number_of(""), 0)

    def test_numbers_that_no_way_has(self):
        for length, many in enumerate(FROM_0_TO_0):
            for number in (-1, -2, -many, -many - 1, many, many + 1, 10 ** 59, 10 ** 60 - 1, -(10 ** 59), 10 ** 69):
                self.assert_no_number(length, number)

    def test_no_way_as_in_looking_through(self):
        for length in range(6):
            for text in texts(length):
                heights = walked(text, 0)
                if min(heights) < 0:
                    self.assert_no_way(heights.index(-1) - 1, number_of, text)
                elif heights[-1] != 0:
                    self.assert_no_way(length, number_of, text)
        self.assert_no_way(1, number_of, "uxd")
        self.assert_no_way(0, number_of, "U")
        self.assert_no_way(2, number_of, "ud ")
        self.assert_no_way(0, number_of, "dx")

    def test_somewhat_beyond_nothing_else_is_refused(self):
        self.assertEqual(way_by(17, 0), "l" * 17)
        self.assertEqual(number_of("l" * 16 + "ud"), 1)
        self.assert_no_number(-1, 0)


if __name__ == "__main__":
    unittest.main()
