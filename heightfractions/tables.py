"""Tables of moments, and the measures of tables."""

from heightfractions.errors import TooFar
from heightfractions.fractions import fraction, shared_part


def moment_table(moments, size, shift=0):
    """The table of so many lists, in the list i at place j the moment i + j + shift; TooFar."""
    last = 2 * (size - 1) + shift
    if size > 0 and (shift < 0 or last >= len(moments)):
        raise TooFar("there is not a moment for each place of the table")
    return [list(moments[i + shift:i + shift + size]) for i in range(size)]


def shared_bottom(numbers):
    """The least number from 1 on that each bottom divides."""
    bottom = 1
    for number in numbers:
        bottom = bottom * (number[1] // shared_part(bottom, number[1]))
    return bottom


def folded(head, row, before):
    """The row less so much of the head that its first number falls away; all of whole numbers."""
    # What is divided here is always a determinant of the first table times the
    # number before, so that nothing is lost and no number grows needlessly long.
    return [(head[0] * row[j] - row[0] * head[j]) // before for j in range(1, len(row))]


def whole_measure(rows):
    """The determinant of a list of n lists of n whole numbers."""
    rest = rows
    sign = 1
    before = 1
    while len(rest) > 0:
        places = [i for i in range(len(rest)) if rest[i][0] != 0]
        if len(places) == 0:
            return 0
        at = places[0]
        head = rest[at]
        # The head goes ahead of as many lists as its place tells.
        if at % 2 == 1:
            sign = -sign
        rest = [folded(head, row, before) for row in rest[:at] + rest[at + 1:]]
        before = head[0]
    return sign * before


def measure(table):
    """The determinant of a list of n lists of n fractions; of no rows 1."""
    rows = []
    bottoms = 1
    for numbers in table:
        bottom = shared_bottom(numbers)
        rows.append([number[0] * (bottom // number[1]) for number in numbers])
        bottoms = bottoms * bottom
    return fraction(whole_measure(rows), bottoms)
