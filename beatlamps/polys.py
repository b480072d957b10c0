"""Polynomials whose coefficients are 0 or 1, told as the lots of their powers."""

from beatlamps.bits import as_bits, as_lot, bezout, divided, multiplied, power_rest
from beatlamps.checks import is_polynomial, need_beats, need_polynomial
from beatlamps.errors import Nought


def plus(one, other):
    """The sum."""
    need_polynomial(one)
    need_polynomial(other)
    return as_lot(as_bits(one) ^ as_bits(other))


def times(one, other):
    """The product, also if it has powers that no polynomial handed in may have."""
    need_polynomial(one)
    need_polynomial(other)
    return as_lot(multiplied(as_bits(one), as_bits(other)))


def parted(one, other):
    """(quotient, rest) of one by other."""
    need_polynomial(one)
    need_polynomial(other)
    if other == ():
        raise Nought(other)
    quotient, rest = divided(as_bits(one), as_bits(other))
    return as_lot(quotient), as_lot(rest)


def common(one, other):
    """(factor, first, second): the greatest common divisor, and what makes it of both."""
    need_polynomial(one)
    need_polynomial(other)
    factor, first, second = bezout(as_bits(one), as_bits(other))
    return as_lot(factor), as_lot(first), as_lot(second)


def shows_common(one, other, value):
    """Whether the value is a right result of common."""
    factor = common(one, other)[0]
    if not isinstance(value, tuple) or len(value) != 3:
        return False
    if not all([is_polynomial(part) for part in value]) or value[0] != factor:
        return False
    first = multiplied(as_bits(value[1]), as_bits(one))
    second = multiplied(as_bits(value[2]), as_bits(other))
    return first ^ second == as_bits(factor)


def core(one):
    """(shift, rest): x ** shift times rest is one, and rest has the power 0."""
    need_polynomial(one)
    if one == ():
        raise Nought(one)
    shift = one[0]
    return shift, tuple([at - shift for at in one])


def power(one, beats, modulo):
    """The rest of one ** beats by modulo."""
    need_polynomial(one)
    need_beats(beats)
    need_polynomial(modulo)
    if modulo == ():
        raise Nought(modulo)
    return as_lot(power_rest(as_bits(one), beats, as_bits(modulo)))
