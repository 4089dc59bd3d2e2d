"""Fractions: tuples (p, q) in lowest terms with q of at least 1 [c3, f1]."""

from math import gcd


def lowest(p, q):
    """The fraction of p and an integer q other than 0."""
    common = gcd(p, q)
    # A divisor with the sign of q leaves a denominator above 0.
    if q < 0:
        common = -common
    return (p // common, q // common)


def plus(one, other):
    """The sum of two fractions."""
    p, q = one
    r, s = other
    return lowest(p * s + r * q, q * s)


def minus(one, other):
    """The difference of two fractions."""
    p, q = one
    r, s = other
    return lowest(p * s - r * q, q * s)


def times(one, other):
    """The product of two fractions."""
    p, q = one
    r, s = other
    return lowest(p * r, q * s)


def over(one, other):
    """The quotient of two fractions, of which the second is not nought."""
    p, q = one
    r, s = other
    return lowest(p * s, q * r)


def is_less(one, other):
    """Whether the first fraction is less than the second one."""
    p, q = one
    r, s = other
    return p * s < r * q
