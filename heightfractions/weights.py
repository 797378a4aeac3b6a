"""Weights: tuples (levels, downs) of fractions by height, and the weights of ways."""

from heightfractions.errors import NoWeights, TooHigh
from heightfractions.fractions import ONE, times
from heightfractions.ways import heights_along

MOST_LEVELS = 8


def weights_of(levels, downs):
    """The weights of two lists of fractions, one more in the first, 1 to 8 in it; else NoWeights."""
    if len(levels) != len(downs) + 1:
        raise NoWeights("there is one level more than there are downs")
    if len(levels) > MOST_LEVELS:
        raise NoWeights("there are one to eight levels")
    return (tuple(levels), tuple(downs))


def height_of(weights):
    """The height k to which the weights go."""
    return len(weights[1])


def step_weight(weights, sign, height):
    """The weight of a step from the height; where there is none TooHigh."""
    if sign == "u":
        return ONE
    if height > height_of(weights):
        raise TooHigh(height)
    return weights[0][height] if sign == "l" else weights[1][height - 1]


def weight_of(weights, way, first=0):
    """The product of the weights of a way's steps; NoWay, then TooHigh, where there is none."""
    # The whole text is looked through first, since NoWay goes ahead of TooHigh.
    heights = heights_along(way, first)
    weight = ONE
    for at, sign in enumerate(way):
        weight = times(weight, step_weight(weights, sign, heights[at]))
    return weight
