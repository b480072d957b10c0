"""Polynomials as integers: the power k stands in the bit k, so that a sum is one exclusive or."""


def as_bits(powers):
    """The integer whose bits are these powers."""
    total = 0
    for at in powers:
        total ^= 1 << at
    return total


def as_lot(bits):
    """The ascending tuple of the bits that are on."""
    return tuple([at for at in range(bits.bit_length()) if bits >> at & 1])


def degree_of(bits):
    """The greatest power, -1 of nought."""
    return bits.bit_length() - 1


def multiplied(one, other):
    """The product."""
    total = 0
    while other:
        least = other & -other
        total ^= one * least
        other ^= least
    return total


def squared(one):
    """The square: modulo two each power is doubled, and no others come."""
    return int("0".join(f"{one:b}"), 2)


def every_second(bits, first):
    """The powers first, first + 2 and so on, halved downwards."""
    return as_bits([at // 2 for at in as_lot(bits) if at & 1 == first])


def how_many(bits):
    """How many bits are on."""
    return f"{bits:b}".count("1")


def divided(one, other):
    """The quotient and the rest of one by other, which is not nought."""
    quotient = 0
    while one.bit_length() >= other.bit_length():
        shift = one.bit_length() - other.bit_length()
        quotient ^= 1 << shift
        one ^= other << shift
    return quotient, one


def remainder(one, other):
    """The rest of one by other, which is not nought."""
    length = other.bit_length()
    while one.bit_length() >= length:
        one ^= other << one.bit_length() - length
    return one


def bezout(one, other):
    """The greatest common divisor, and two polynomials that times one and other make it."""
    first, after_first = 1, 0
    second, after_second = 0, 1
    while other:
        quotient, rest = divided(one, other)
        one, other = other, rest
        first, after_first = after_first, first ^ multiplied(quotient, after_first)
        second, after_second = after_second, second ^ multiplied(quotient, after_second)
    return one, first, second


def power_rest(one, beats, modulo):
    """The rest of one ** beats by modulo, which is not nought."""
    result = remainder(1, modulo)
    doubling = remainder(one, modulo)
    while beats:
        if beats & 1:
            result = remainder(multiplied(result, doubling), modulo)
        doubling = remainder(squared(doubling), modulo)
        beats >>= 1
    return result
