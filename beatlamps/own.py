"""Own polynomials: which beats together make a row, or all rows, dark."""

from beatlamps.bits import as_lot
from beatlamps.checks import need_with_row, need_with_size
from beatlamps.rings import bits_of, moved, strides
from beatlamps.spaces import lessened


def own_bits(kind, rule, bits, size):
    """The polynomial of least degree, but nought, that darkens this row, as an integer."""
    stride = strides(kind, rule, size, 1)
    pivots = {}
    beats = 0
    left, taken = lessened(pivots, bits, 1)
    while left:
        pivots[left.bit_length()] = (left, taken)
        beats += 1
        bits = moved(kind, stride, bits, size)
        left, taken = lessened(pivots, bits, 1 << beats)
    return taken


def own_row(kind, rule, row):
    """The polynomial of least degree, but nought, that darkens this row."""
    need_with_row(kind, rule, row)
    return as_lot(own_bits(kind, rule, bits_of(row), len(row)))


def own(kind, rule, size):
    """The polynomial of least degree, but nought, that darkens all rows of this size."""
    need_with_size(kind, rule, size)
    # Each row is a sum of what rounds of the ring, or beats of the cross, make of the first lamp alone,
    # and these go with the rule: so what darkens this one row darkens all.
    return as_lot(own_bits(kind, rule, 1, size))
