"""What an even rule loses between walls, for rows of all sizes."""

from beatlamps.bits import as_lot
from beatlamps.checks import ENDLESS, need_even, need_number, need_rule, need_size
from beatlamps.entries import wall_parts
from beatlamps.oftener import shows_told, told_darkens
from beatlamps.plain import factors
from beatlamps.rules import in_cross_bits
from beatlamps.sharing import first_losing, kept_numbers, lost_by, losing_numbers, most_losing

MOST_LOST = 6


def need_even_rule(rule):
    """BadRule, then NotEven."""
    need_rule(rule)
    need_even(rule)


def need_even_rules(one, other):
    """BadRule, then NotEven, for one, then for other."""
    need_even_rule(one)
    need_even_rule(other)


def crossed(rule):
    """The polynomial in the cross of an even rule."""
    return as_lot(in_cross_bits(rule))


def row_parts(rule):
    """The parts of what an even rule loses, for one more than each size."""
    return wall_parts(factors(crossed(rule)))


def lost_between(rule, size):
    """What the rule loses of rows of this size."""
    need_even_rule(rule)
    need_size(size, 1, ENDLESS)
    return lost_by(row_parts(rule), size + 1)


def losing_between(rule):
    """The lot of the least integers such that it loses something just if one of them divides one more than the size."""
    need_even_rule(rule)
    return losing_numbers(row_parts(rule))


def first_lost_between(rule, many):
    """The least size at which at least so many are lost, None if there is none."""
    need_even_rule(rule)
    need_number(many, 1, MOST_LOST)
    number = first_losing(row_parts(rule), many)
    return None if number is None else number - 1


def most_lost_between(rule):
    """(lost, size): the most that is lost between any walls, and the least size with which it is."""
    need_even_rule(rule)
    most, number = most_losing(row_parts(rule))
    # If nothing is ever lost, the number is 1, to which no size belongs.
    return most, max(number - 1, 1)


def kept_between(rule, bound):
    """With how many of the sizes from 1 to bound nothing is lost."""
    need_even_rule(rule)
    need_size(bound, 1, ENDLESS)
    # Nothing is lost at the number 1, and no size belongs to it.
    return kept_numbers(row_parts(rule), bound + 1) - 1


def darkens_between(one, other):
    """("always", quotient), or ("size", size, factor, times) of the least walls between which other does not."""
    need_even_rules(one, other)
    return told_darkens(crossed(one), crossed(other), row_parts(one), 1)


def shows_darkens_between(one, other, value):
    """Whether the value is a right result of darkens_between."""
    need_even_rules(one, other)
    return shows_told(crossed(one), crossed(other), row_parts(one), 1, value)
