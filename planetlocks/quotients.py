"""Reckoning with fractions, tuples (p, q) in lowest terms."""

from math import gcd

ZERO = (0, 1)
ONE = (1, 1)


def lowest(top, bottom):
    """The fraction top by bottom, of two integers, the second one not 0."""
    common = gcd(top, bottom)
    if bottom < 0:
        common = -common
    return (top // common, bottom // common)


def difference_of(one, other):
    return lowest(one[0] * other[1] - other[0] * one[1], one[1] * other[1])


def product_of(one, other):
    return lowest(one[0] * other[0], one[1] * other[1])


def divided(one, other):
    """One fraction by another one that is not 0."""
    return lowest(one[0] * other[1], one[1] * other[0])


def is_less(one, other):
    return one[0] * other[1] < other[0] * one[1]


def least_of(fractions):
    """The least fraction of a list that is not empty."""
    least = fractions[0]
    for fraction in fractions:
        if is_less(fraction, least):
            least = fraction
    return least


def greatest_of(fractions):
    """The greatest fraction of a list that is not empty."""
    greatest = fractions[0]
    for fraction in fractions:
        if is_less(greatest, fraction):
            greatest = fraction
    return greatest
