"""Reckoning with fractions, tuples (p, q) in lowest terms."""

from math import gcd

ZERO = (0, 1)
ONE = (1, 1)


def lowest(top, bottom):
    """The fraction top by bottom, of two integers, the second one not 0."""
    common = gcd(top, bottom)
    if bottom < 0:
        common = -common
    return (top // common, bottom // common)


def divided(one, other):
    """One fraction by another one that is not 0."""
    return lowest(one[0] * other[1], one[1] * other[0])
