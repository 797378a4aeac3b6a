"""Polynomials: tuples of fractions, one for each power, the last not nought."""

from heightfractions.fractions import NOUGHT, plus, times


def poly_of(numbers):
    """The polynomial of a list or tuple of fractions, without noughts at the end."""
    many = len(numbers)
    while many > 0 and numbers[many - 1] == NOUGHT:
        many = many - 1
    return tuple(numbers[:many])


def number_at(f, power):
    """The polynomial's number of a power, nought where it has none."""
    return f[power] if power < len(f) else NOUGHT


def poly_plus(f, g):
    """The sum of two polynomials."""
    return poly_of([plus(number_at(f, n), number_at(g, n)) for n in range(max(len(f), len(g)))])


def poly_minus(f, g):
    """The first polynomial less the second."""
    return poly_plus(f, poly_scaled(g, (-1, 1)))


def poly_times(f, g):
    """The product of two polynomials."""
    sums = [NOUGHT for place in range(len(f) + len(g))]
    for i, a in enumerate(f):
        for j, b in enumerate(g):
            sums[i + j] = plus(sums[i + j], times(a, b))
    return poly_of(sums)


def poly_scaled(f, a):
    """The polynomial times a fraction."""
    return poly_of([times(number, a) for number in f])


def degree_of(f):
    """The place of the last number; of the polynomial nought -1."""
    return len(f) - 1


def poly_value(f, a):
    """The polynomial's value at a fraction."""
    value = NOUGHT
    for number in reversed(f):
        value = plus(times(value, a), number)
    return value
