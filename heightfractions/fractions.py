"""Fractions: tuples (top, bottom) in lowest terms, the bottom from 1 on."""

from heightfractions.errors import NoFraction, NoText

NOUGHT = (0, 1)
ONE = (1, 1)
FIGURES = "0123456789"
MOST_FIGURES = 30


def is_whole(thing):
    """Whether the thing is a whole number: an int that is no truth."""
    return isinstance(thing, int) and not isinstance(thing, bool)


def shared_part(a, b):
    """The greatest number that divides both; of 0 and 0 it is 0."""
    larger = abs(a)
    lesser = abs(b)
    while lesser != 0:
        rest = larger % lesser
        larger = lesser
        lesser = rest
    return larger


def fraction(top, bottom):
    """The fraction of two whole numbers, the second not 0; else NoFraction."""
    if not is_whole(top) or not is_whole(bottom):
        raise NoFraction("a fraction is made of two whole numbers")
    if bottom == 0:
        raise NoFraction("the bottom of a fraction is not 0")
    part = shared_part(top, bottom)
    if bottom < 0:
        part = -part
    return (top // part, bottom // part)


def plus(a, b):
    """The sum of two fractions."""
    # In a sum of two fractions in lowest terms only a divisor of the bottoms'
    # shared part can fall away, so long sums never need it of two long numbers.
    part = shared_part(a[1], b[1])
    top = a[0] * (b[1] // part) + b[0] * (a[1] // part)
    rest = shared_part(top, part)
    return (top // rest, (a[1] // part) * (b[1] // rest))


def minus(a, b):
    """The first fraction less the second."""
    return plus(a, (-b[0], b[1]))


def times(a, b):
    """The product of two fractions."""
    # Both are in lowest terms, so a top can only share with the other bottom.
    first = shared_part(a[0], b[1])
    second = shared_part(b[0], a[1])
    return ((a[0] // first) * (b[0] // second), (a[1] // second) * (b[1] // first))


def over(a, b):
    """The first fraction divided by the second; by nought: NoFraction."""
    if b[0] == 0:
        raise NoFraction("nothing is divided by nought")
    if b[0] < 0:
        return times(a, (-b[1], -b[0]))
    return times(a, (b[1], b[0]))


def figures_of(number):
    """The figures of a whole number from 0 on."""
    # Python refuses to write numbers of some thousand figures at once, but a
    # fraction that was told may be of any size.
    unit = 10 ** 64
    pieces = []
    rest = number
    while rest >= unit:
        pieces.append(str(rest % unit).zfill(64))
        rest = rest // unit
    pieces.append(str(rest))
    return "".join(reversed(pieces))


def written(a):
    """The fraction's text: `-3/4`, or `5` where the bottom is 1."""
    text = figures_of(abs(a[0]))
    if a[0] < 0:
        text = "-" + text
    if a[1] != 1:
        text = text + "/" + figures_of(a[1])
    return text


def are_figures(text):
    """Whether the text is one to thirty figures."""
    return 1 <= len(text) <= MOST_FIGURES and all([sign in FIGURES for sign in text])


def fraction_read(thing):
    """The fraction that is written so; any other thing: NoText, part 0."""
    if not isinstance(thing, str):
        raise NoText(0)
    below = thing.startswith("-")
    parts = (thing[1:] if below else thing).split("/")
    if len(parts) > 2 or not all([are_figures(part) for part in parts]):
        raise NoText(0)
    top = int(parts[0])
    bottom = int(parts[1]) if len(parts) == 2 else 1
    if bottom == 0:
        raise NoText(0)
    answer = fraction(-top if below else top, bottom)
    # Each fraction is written in one way alone, so what is written otherwise
    # (noughts ahead, -0, a bottom 1, not in lowest terms) shows here.
    if written(answer) != thing:
        raise NoText(0)
    return answer
