"""What a rule loses on which rings, of all sizes."""

from beatlamps.checks import ENDLESS, need_number, need_rule, need_size
from beatlamps.measures import measured, shared
from beatlamps.rules import shifted
from beatlamps.sharing import DOUBLINGS, first_losing, kept_numbers, losing_numbers, most_losing

MOST_LOST = 12


def ring_parts(rule):
    """The parts of what the rule's polynomial has in common with x to a size, plus 1."""
    parts = []
    for factor, many, least in measured(shifted(rule)[1]):
        parts.append((factor, least, tuple([min(many, 1 << at) for at in range(DOUBLINGS + 1)])))
    return parts


def lost_at(rule, size):
    """What the rule loses on a ring of this size."""
    need_rule(rule)
    return shared(shifted(rule)[1], size)


def losing(rule):
    """The lot of the least sizes such that it loses something just on rings whose size one of them divides."""
    need_rule(rule)
    return losing_numbers(ring_parts(rule))


def first_lost(rule, many):
    """The least size of a ring on which it loses at least so many, None if there is none."""
    need_rule(rule)
    need_number(many, 1, MOST_LOST)
    return first_losing(ring_parts(rule), many)


def most_lost(rule):
    """(lost, size): the most that it loses on any ring, and the least size of one on which it does."""
    need_rule(rule)
    return most_losing(ring_parts(rule))


def kept(rule, bound):
    """On how many of the rings of sizes from 1 to bound it loses nothing."""
    need_rule(rule)
    need_size(bound, 1, ENDLESS)
    return kept_numbers(ring_parts(rule), bound)
