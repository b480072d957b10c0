"""Tubes: floors each of whose rows is a ring, told by the rule that comes of their height."""

from beatlamps.allrings import lost_at
from beatlamps.checks import need_middle, need_size
from beatlamps.entries import wall_at
from beatlamps.rules import CROSS_DEGREE, of_cross


def tube_rule(middle, high):
    """The rule that comes of the wall polynomial of this height."""
    need_middle(middle)
    need_size(high, 1, CROSS_DEGREE)
    return of_cross(wall_at(middle, high))


def tube_lost_at(middle, high, size):
    """What is lost on a tube so high, each of whose rows is a ring of this size."""
    return lost_at(tube_rule(middle, high), size)
