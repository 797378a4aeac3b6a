"""The row of polynomials of weights, and the rule of moments."""

from heightfractions.errors import TooFar
from heightfractions.fractions import NOUGHT, ONE, minus, plus, times
from heightfractions.polys import degree_of, number_at, poly_minus, poly_of, poly_scaled, poly_times
from heightfractions.weights import height_of


def one_further(level, now, down, before):
    """x less the level, times the one now, less the down times the one before it."""
    return poly_minus(poly_times(poly_of([minus(NOUGHT, level), ONE]), now), poly_scaled(before, down))


def row_of(weights):
    """The row of the weights: one more polynomial than the levels, each of the degree of its place."""
    row = [(ONE,)]
    before = ()
    for h, level in enumerate(weights[0]):
        # The first level has no down, but nothing stands before it to be weighed.
        down = weights[1][h - 1] if h > 0 else NOUGHT
        row.append(one_further(level, row[h], down, before))
        before = row[h]
    return row


def ruled(moments, poly):
    """The sum of the polynomial's numbers, each times the moment at its place; TooFar."""
    if degree_of(poly) >= len(moments):
        raise TooFar("there is not a moment for each power of the polynomial")
    total = NOUGHT
    for n, number in enumerate(poly):
        total = plus(total, times(number, moments[n]))
    return total


def in_row(weights, poly):
    """The numbers which, each times the one at its place of the row, sum up to the polynomial; TooFar."""
    if degree_of(poly) > height_of(weights) + 1:
        raise TooFar("the row does not reach to the polynomial's degree")
    numbers = []
    rest = poly
    # Only the one at the place h has the power h and none above it, so that
    # from the last place down each number is the one that is left there.
    for one in reversed(row_of(weights)):
        number = number_at(rest, degree_of(one))
        numbers.append(number)
        rest = poly_minus(rest, poly_scaled(one, number))
    return list(reversed(numbers))
