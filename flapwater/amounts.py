"""Fractions as tuples (top, bottom), in lowest terms, the bottom from 1 on."""

from math import gcd, lcm

NOUGHT = (0, 1)


def lowest(top, bottom):
    """The fraction top by bottom in lowest terms; the bottom handed in is above 0."""
    common = gcd(top, bottom)
    return (top // common, bottom // common)


def plus(one, other):
    """Both fractions together."""
    # Only what both bottoms share can still divide the sum. To look for that alone keeps long histories, whose
    # bottoms may come to many thousand figures, from taking minutes.
    common = gcd(one[1], other[1])
    rest = one[1] // common
    top, shared = lowest(one[0] * (other[1] // common) + other[0] * rest, common)
    return (top, shared * rest * (other[1] // common))


def minus(one, other):
    """What the one fraction is more than the other, below 0 where it is less."""
    return plus(one, (-other[0], other[1]))


def share(amount, part, whole):
    """As much of the amount as the part, a whole number above 0, is of the whole."""
    # Put in lowest terms crosswise, for the same reason.
    part, whole = lowest(part, whole)
    top, whole = lowest(amount[0], whole)
    part, bottom = lowest(part, amount[1])
    return (top * part, bottom * whole)


def above(one, other):
    """Whether the one fraction is more than the other."""
    return one[0] * other[1] > other[0] * one[1]


def sums(amounts):
    """Nought, the first amount, the first two together, and so on to all."""
    told = [NOUGHT]
    for amount in amounts:
        told.append(plus(told[-1], amount))
    return told


def one_bottom(fractions):
    """The tops of the fractions over the least bottom that all of them can have, and that bottom."""
    bottom = 1
    for fraction in fractions:
        bottom = lcm(bottom, fraction[1])
    return [top * (bottom // own) for top, own in fractions], bottom
