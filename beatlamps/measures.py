"""Measures: on which sizes n a polynomial has something in common with x ** n + 1."""

from math import lcm

from beatlamps.bits import as_bits, bezout, degree_of, power_rest
from beatlamps.checks import ENDLESS, need_size
from beatlamps.errors import NoMeasure
from beatlamps.plain import factors, need_short
from beatlamps.polys import core

X = 2


def primes_of(number):
    """The primes that divide the number, without repeats."""
    primes = []
    by = 2
    while by * by <= number:
        if number % by == 0:
            primes.append(by)
            while number % by == 0:
                number //= by
        by += 1
    if number > 1:
        primes.append(number)
    return primes


def least_part(number, holds):
    """The number from 1 on for whose multiples alone it holds; it holds for this one."""
    for prime in primes_of(number):
        while number % prime == 0 and holds(number // prime):
            number //= prime
    return number


def plain_measure(factor):
    """The measure of a plain polynomial other than x."""
    bits = as_bits(factor)
    # The powers of x go round in a field of 2 ** degree, so their number divides one less than that.
    return least_part((1 << degree_of(bits)) - 1, lambda beats: power_rest(X, beats, bits) == 1)


def measured(one):
    """The ascending tuple of (factor, times, measure) for the factors of its core."""
    need_short(one)
    return tuple([(factor, often, plain_measure(factor)) for factor, often in factors(core(one)[1])])


def measure(one):
    """The least integer from 1 on such that one divides x to it, plus 1."""
    need_short(one)
    if one[0] != 0:
        raise NoMeasure(one)
    together = 1
    doublings = 1
    for _, often, alone in measured(one):
        together = lcm(together, alone)
        # Squares double a measure, so times come at doublings only.
        while doublings < often:
            doublings *= 2
    return together * doublings


def shared(one, size):
    """The degree of the greatest common divisor of one and x ** size + 1."""
    need_short(one)
    need_size(size, 1, ENDLESS)
    bits = as_bits(one)
    return degree_of(bezout(bits, power_rest(X, size, bits) ^ 1)[0])
