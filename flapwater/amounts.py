"""Fractions as tuples (top, bottom), in lowest terms, the bottom from 1 on."""

from math import gcd

NOUGHT = (0, 1)


def lowest(top, bottom):
    """The fraction top by bottom in lowest terms; the bottom handed in is above 0."""
    common = gcd(top, bottom)
    return (top // common, bottom // common)


def plus(one, other):
    """Both fractions together."""
    return lowest(one[0] * other[1] + other[0] * one[1], one[1] * other[1])


def share(amount, part, whole):
    """As much of the amount as the part, a whole number, is of the whole."""
    return lowest(amount[0] * part, amount[1] * whole)


def above(one, other):
    """Whether the one fraction is more than the other."""
    return one[0] * other[1] > other[0] * one[1]
