"""Two rules on all rings: whether what one makes dark the other does too, and whether both lose as many."""

from beatlamps.allrings import ring_parts
from beatlamps.checks import need_rule
from beatlamps.oftener import shows_told, told_darkens
from beatlamps.rules import shifted
from beatlamps.sharing import first_unlike


def need_rules(one, other):
    """BadRule for one, then for other."""
    need_rule(one)
    need_rule(other)


def darkens(one, other):
    """("always", quotient), or ("size", size, factor, times) of the least ring on which other does not."""
    need_rules(one, other)
    return told_darkens(shifted(one)[1], shifted(other)[1], ring_parts(one), 0)


def shows_darkens(one, other, value):
    """Whether the value is a right result of darkens."""
    need_rules(one, other)
    return shows_told(shifted(one)[1], shifted(other)[1], ring_parts(one), 0, value)


def same_lost(one, other):
    """("always",), or ("size", size) of the least ring on which the rules do not lose as many."""
    need_rules(one, other)
    size = first_unlike(ring_parts(one), ring_parts(other))
    if size is None:
        return ("always",)
    return "size", size
