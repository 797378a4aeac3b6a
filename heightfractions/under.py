"""The fraction under fractions of weights: its ends, and the series of two polynomials."""

from heightfractions.errors import NoSeries, TooFar
from heightfractions.fractions import NOUGHT, ONE, minus, over, times
from heightfractions.polys import degree_of, number_at, poly_minus, poly_of, poly_times
from heightfractions.weights import height_of


def one_less(level):
    """The polynomial 1 less the level times z."""
    return poly_of([ONE, minus(NOUGHT, level)])


def one_below(weights, h, now, before):
    """Of the tops, or the bottoms, of the ends h and h - 1 (h from 1 on) the one of the end h + 1."""
    down = poly_of([NOUGHT, NOUGHT, weights[1][h - 1]])
    return poly_minus(poly_times(one_less(weights[0][h]), now), poly_times(down, before))


def end_of(weights, h):
    """The top and the bottom of the end h; above the weights' height and 1: TooFar."""
    if h > height_of(weights) + 1:
        raise TooFar("the fraction under fractions has no such end")
    tops = [(), (ONE,)]
    bottoms = [(ONE,), one_less(weights[0][0])]
    for n in range(1, h):
        tops.append(one_below(weights, n, tops[n], tops[n - 1]))
        bottoms.append(one_below(weights, n, bottoms[n], bottoms[n - 1]))
    # What lies below 0 cuts off all, as 0 does.
    place = max(h, 0)
    return (tops[place], bottoms[place])


def series(top, bottom, many):
    """The first so many numbers of the row that times the bottom gives the top; else NoSeries."""
    if number_at(bottom, 0) == NOUGHT:
        raise NoSeries("at the power 0 the bottom needs a number that is not nought")
    numbers = []
    for n in range(many):
        rest = number_at(top, n)
        for power in range(1, min(n, degree_of(bottom)) + 1):
            rest = minus(rest, times(bottom[power], numbers[n - power]))
        numbers.append(over(rest, bottom[0]))
    return numbers
