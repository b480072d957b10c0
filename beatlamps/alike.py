"""Rules beside one another: on which sizes they make the same."""

from beatlamps.bits import as_bits, remainder
from beatlamps.checks import need_even, need_kind, need_row_size, need_rule
from beatlamps.rings import offsets_on
from beatlamps.rows import wall_polynomial
from beatlamps.rules import in_cross_bits

# Two rules that differ are at most twelve apart, so on no greater ring, nor between farther walls, are they alike.
GREATEST_ALIKE = 12


def need_two(kind, one, other):
    """The errors of the kind and of both rules."""
    need_kind(kind)
    need_rule(one)
    need_rule(other)
    if kind == "walls":
        need_even(one)
        need_even(other)


def agree(kind, one, other, size):
    """Whether a beat by either rule makes the same of each row of this size."""
    if kind == "ring":
        return offsets_on(one, size) == offsets_on(other, size)
    difference = in_cross_bits(one) ^ in_cross_bits(other)
    return remainder(difference, as_bits(wall_polynomial(size))) == 0


def alike_on(kind, one, other, size):
    """Whether a beat by either rule makes the same of each row of this size."""
    need_two(kind, one, other)
    need_row_size(size)
    return agree(kind, one, other, size)


def alike_sizes(kind, one, other):
    """("always",), or ("sizes", lot) with all sizes for which the rules make the same."""
    need_two(kind, one, other)
    if one == other:
        return ("always",)
    return "sizes", tuple([size for size in range(1, GREATEST_ALIKE + 1) if agree(kind, one, other, size)])
