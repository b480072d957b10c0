"""Plain polynomials, and the factors of others."""

from beatlamps.bits import as_bits, as_lot, degree_of, divided
from beatlamps.checks import need_polynomial
from beatlamps.errors import Nought, TooLong

GREATEST_DEGREE = 24


def need_short(one):
    """The errors of all that takes factors: BadPolynomial, Nought, TooLong."""
    need_polynomial(one)
    if one == ():
        raise Nought(one)
    if one[-1] > GREATEST_DEGREE:
        raise TooLong(GREATEST_DEGREE)


def parted_often(bits, by):
    """How often by divides bits, and what is left then."""
    often = 0
    quotient, rest = divided(bits, by)
    while rest == 0:
        bits = quotient
        often += 1
        quotient, rest = divided(bits, by)
    return often, bits


def plain_parts(bits):
    """The list of (factor, times), the factors as integers, those of lesser value first."""
    parts = []
    by = 2
    while 2 * degree_of(by) <= degree_of(bits):
        often, bits = parted_often(bits, by)
        if often:
            parts.append((by, often))
        # Behind x all that have no power 0 are multiples of it, so none of them is plain.
        by += 1 if by == 2 else 2
    if degree_of(bits) > 0:
        parts.append((bits, 1))
    return parts


def is_plain(one):
    """Whether no polynomial of a lesser degree, from 1 on, divides it."""
    need_short(one)
    return plain_parts(as_bits(one)) == [(as_bits(one), 1)]


def factors(one):
    """The ascending tuple of (factor, times)."""
    need_short(one)
    return tuple(sorted([(as_lot(bits), often) for bits, often in plain_parts(as_bits(one))]))


def root(one):
    """The polynomial whose square it is, None if there is none."""
    need_short(one)
    if any([at & 1 for at in one]):
        return None
    return tuple([at // 2 for at in one])
