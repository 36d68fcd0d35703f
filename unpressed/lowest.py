"""Fractions in lowest terms."""

from math import gcd


def lowest(top, bottom):
    """The fraction as a pair of whole numbers in lowest terms."""
    shared = gcd(top, bottom)
    return (top // shared, bottom // shared)
