"""Wall polynomials, and at which sizes plain polynomials enter them."""

from math import gcd

from beatlamps.bits import as_bits, as_lot, multiplied, remainder, squared
from beatlamps.checks import ENDLESS, GREATEST_ROW, need_middle, need_polynomial, need_size
from beatlamps.errors import NotPlain, TooHigh
from beatlamps.measures import least_part
from beatlamps.plain import factors, is_plain
from beatlamps.sharing import DOUBLINGS, doublings_of

GREATEST_PLAIN = 12
GREATEST_PARTED = 12
X = 2
X_AND_ONE = 3


def wall_rest(size, bits):
    """The rest of the wall polynomial of this size, from 0 on, by the other one, which is not nought."""
    # Let P(n) be that of n less one. Then P(2n) is x times the square of P(n), P(2n + 1) the sum of the squares of
    # P(n) and P(n + 1). Here one is P(n), other P(n + 1), for n the first figures of the number.
    one, other = 0, 1
    for figure in f"{size + 1:b}":
        first, second = squared(one), squared(other)
        if figure == "1":
            one, other = first ^ second, second * X
        else:
            one, other = first * X, first ^ second
        one, other = remainder(one, bits), remainder(other, bits)
    return one


def plain_entry(factor):
    """The entry of a plain polynomial."""
    bits = as_bits(factor)
    if bits == X:
        return 2
    # If x is t plus one over t, t is in the field of 4 ** degree, and the wall polynomial of n is nought just if
    # t to n + 1 is 1.
    number = (1 << 2 * factor[-1]) - 1
    return least_part(number, lambda part: wall_rest(part - 1, bits) == 0)


def often_at(factor, doublings):
    """How often it divides a wall polynomial of one less than a multiple of its entry that two divides so often."""
    if as_bits(factor) == X:
        return (1 << doublings) - 1
    return 2 << doublings


def wall_parts(pairs):
    """The parts, for one more than each size, of what a polynomial of these (factor, times) shares with that wall's."""
    parts = []
    for factor, many in pairs:
        often = tuple([min(many, often_at(factor, at)) for at in range(DOUBLINGS + 1)])
        parts.append((factor, plain_entry(factor), often))
    return parts


def need_plain(factor):
    """BadPolynomial, then NotPlain unless it is plain and of no greater degree than 12."""
    need_polynomial(factor)
    if factor == () or factor[-1] > GREATEST_PLAIN or not is_plain(factor):
        raise NotPlain(factor)


def entry(factor):
    """The least integer from 2 on such that it divides the wall polynomial of one less."""
    need_plain(factor)
    return plain_entry(factor)


def stands(factor, size):
    """How often it divides the wall polynomial of this size."""
    need_plain(factor)
    need_size(size, 0, ENDLESS)
    if (size + 1) % plain_entry(factor):
        return 0
    return often_at(factor, doublings_of(size + 1))


def wall_at(middle, high):
    """The wall polynomial of this size, with x + 1 in the place of x if middle is True."""
    need_middle(middle)
    need_size(high, 1, GREATEST_ROW)
    step = X_AND_ONE if middle else X
    less, bits = 0, 1
    for _ in range(high):
        less, bits = bits, multiplied(bits, step) ^ less
    return as_lot(bits)


def entries(middle, high):
    """The ascending tuple of (factor, times, entry) for the factors of wall_at."""
    whole = wall_at(middle, high)
    if high > GREATEST_PARTED:
        raise TooHigh(GREATEST_PARTED)
    return tuple([(factor, many, plain_entry(factor)) for factor, many in factors(whole)])


def shared_size(one, other):
    """The size whose wall polynomial is the greatest common divisor of theirs."""
    need_size(one, 0, ENDLESS)
    need_size(other, 0, ENDLESS)
    return gcd(one + 1, other + 1) - 1
