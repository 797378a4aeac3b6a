"""Sums of the weights of ways, by listing and height by height, and the moments."""

from heightfractions.errors import TooFar
from heightfractions.fractions import NOUGHT, ONE, plus, times
from heightfractions.ways import ways_listed
from heightfractions.weights import height_of, weight_of


def check_reach(weights, length, first, last, below):
    """TooFar where a way could need a weight that is not there."""
    k = height_of(weights)
    kept_low = below is not None and below <= k + 1
    if not kept_low and length + first + last > 2 * k + 1:
        raise TooFar("the weights do not reach to all these ways")


def sum_listed(weights, length, first=0, last=0, below=None):
    """The weights of all these ways summed up, by listing; TooFar, then TooMany."""
    check_reach(weights, length, first, last, below)
    total = NOUGHT
    for way in ways_listed(length, first, last, below):
        total = plus(total, weight_of(weights, way, first))
    return total


def one_step_on(weights, sums):
    """Of the sums by the height reached, those with one step more; none goes above the last place."""
    after = []
    for height in range(len(sums)):
        total = times(sums[height], weights[0][height])
        if height > 0:
            total = plus(total, sums[height - 1])
        if height + 1 < len(sums):
            total = plus(total, times(sums[height + 1], weights[1][height]))
        after.append(total)
    return after


def sum_stepped(weights, length, first=0, last=0, below=None):
    """The weights of all these ways summed up, height by height; TooFar."""
    check_reach(weights, length, first, last, below)
    # What is not too far never goes above the weights' height: a way that goes
    # there has not the steps left to come to the last height.
    bound = height_of(weights) + 1
    if below is not None:
        bound = min(bound, below)
    if length < 0 or not 0 <= last < bound:
        return NOUGHT
    sums = [ONE if height == first else NOUGHT for height in range(bound)]
    for step in range(length):
        sums = one_step_on(weights, sums)
    return sums[last]


def moments(weights):
    """The sums from 0 to 0 of the lengths 0 to 2 k + 1, k the weights' height."""
    return [sum_stepped(weights, length) for length in range(2 * height_of(weights) + 2)]
