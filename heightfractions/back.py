"""Weights told back from moments, or what bars it."""

from heightfractions.errors import NoMoments
from heightfractions.fractions import NOUGHT, ONE, minus, over
from heightfractions.rows import one_further, ruled

MOST_MOMENTS = 16


def check_moments(moments):
    """NoMoments where there are not 2, 4, .. or 16 of them, the first of which is 1."""
    if len(moments) % 2 != 0 or not 2 <= len(moments) <= MOST_MOMENTS:
        raise NoMoments("the moments are an even number from 2 to 16")
    if moments[0] != ONE:
        raise NoMoments("the first moment is 1")


def weights_back(moments):
    """("weights", levels, downs) of the moments, or ("barred", n, row); NoMoments."""
    check_moments(moments)
    levels = []
    downs = []
    before = ()
    now = (ONE,)
    last_product = ONE
    last_sum = NOUGHT
    for h in range(len(moments) // 2):
        # One way of h steps goes from 0 to h, and those of one step more have
        # one level step each. So the rule takes the power h of x, times the one
        # at place h of the row, to the product of the first h downs, and the
        # power h + 1 to this times the sum of the levels to the height h.
        product = ruled(moments[h:], now)
        if product == NOUGHT:
            # The measure of the size h + 1 is the one of h times this product.
            return ("barred", h + 1, now)
        level_sum = over(ruled(moments[h + 1:], now), product)
        levels.append(minus(level_sum, last_sum))
        downs.append(over(product, last_product))
        further = one_further(levels[h], now, downs[h], before)
        before = now
        now = further
        last_product = product
        last_sum = level_sum
    # At the height 0 there is no step down: what stands first is no down.
    return ("weights", tuple(levels), tuple(downs[1:]))
