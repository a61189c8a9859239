"""Fractions: pairs (top, bottom) in lowest terms, the bottom above 0."""


def part(top, bottom):
    """The fraction of two numbers, the bottom not 0."""
    measure = common_measure(abs(top), abs(bottom))
    # A measure with the bottom's sign leaves the bottom above 0.
    if bottom < 0:
        measure = -measure
    return (top // measure, bottom // measure)


def plus(a, b):
    """The sum of two fractions."""
    return part(a[0] * b[1] + b[0] * a[1], a[1] * b[1])


def minus(a, b):
    """The first fraction less the second."""
    return part(a[0] * b[1] - b[0] * a[1], a[1] * b[1])


def scaled(a, many):
    """A fraction times a number."""
    return part(a[0] * many, a[1])


def total(row):
    """The sum of a list of fractions."""
    # Over one common bottom the tops are summed as whole numbers, and lowest
    # terms are sought once, however many fractions there are.
    bottom = 1
    for top, own in row:
        bottom = bottom // common_measure(bottom, own) * own
    return part(sum([top * (bottom // own) for top, own in row]), bottom)


def common_measure(a, b):
    """The greatest number that goes into both, neither below 0 and one above it."""
    while b != 0:
        a, b = b, a % b
    return a
