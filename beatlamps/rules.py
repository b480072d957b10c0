"""Rules: the lots of offsets at which lamps are summed, at each beat."""

from beatlamps.bits import as_bits, as_lot, multiplied
from beatlamps.checks import contrary, need_even, need_polynomial, need_rule
from beatlamps.errors import Nought, TooLong

CROSS_DEGREE = 6
X = 2


def shifted(rule):
    """(least, powers) of a rule: its least offset, and the polynomial of all less that."""
    least = rule[0]
    return least, tuple([offset - least for offset in rule])


def polynomial(rule):
    """(least, powers): the least offset, and the polynomial of the offsets less the least one."""
    need_rule(rule)
    return shifted(rule)


def turned(rule):
    """The rule turned about."""
    need_rule(rule)
    return contrary(rule)


def is_even(rule):
    """Whether it is the same turned about."""
    need_rule(rule)
    return contrary(rule) == rule


def joined(one, other):
    """The offsets of a beat by one and a beat by other together."""
    need_rule(one)
    need_rule(other)
    least_one, powers_one = shifted(one)
    least_other, powers_other = shifted(other)
    least = least_one + least_other
    return tuple([least + at for at in as_lot(multiplied(as_bits(powers_one), as_bits(powers_other)))])


def pair_bits(offset):
    """The polynomial in the cross that makes the two lamps at this offset and at its contrary."""
    # A beat of the cross makes of the pairs at k those at k + 1 and at k - 1; the pair at 0 is none.
    before, pair = 0, X
    for _ in range(offset - 1):
        before, pair = pair, multiplied(pair, X) ^ before
    return pair


def in_cross_bits(rule):
    """The polynomial in the cross of an even rule, as an integer."""
    total = 0
    for offset in rule:
        if offset == 0:
            total ^= 1
        if offset > 0:
            total ^= pair_bits(offset)
    return total


def in_cross(rule):
    """The polynomial in the cross of an even rule."""
    need_rule(rule)
    need_even(rule)
    return as_lot(in_cross_bits(rule))


def of_cross(powers):
    """The even rule that has this polynomial in the cross."""
    need_polynomial(powers)
    if powers == ():
        raise Nought(powers)
    if powers[-1] > CROSS_DEGREE:
        raise TooLong(CROSS_DEGREE)
    total = 0
    for at in powers:
        # Offsets may be below 0, so all stand CROSS_DEGREE further to the right until the end.
        offsets = 1 << CROSS_DEGREE
        for _ in range(at):
            offsets = offsets << 1 ^ offsets >> 1
        total ^= offsets
    return tuple([at - CROSS_DEGREE for at in as_lot(total)])
