"""Rows as integers, the lamp at the place k in the bit k, and beats as products on rings."""

from beatlamps.bits import multiplied, squared
from beatlamps.checks import contrary


def bits_of(row):
    """The integer of a row."""
    return int(row[::-1], 2)


def row_of(bits, size):
    """The row of this size that the integer is."""
    return f"{bits:b}".zfill(size)[::-1]


def folded(bits, size):
    """What a product of two rows is round the ring of this size."""
    return (bits >> size) ^ (bits & (1 << size) - 1)


def ring_times(one, other, size):
    """The product of two rows round the ring of this size."""
    return folded(multiplied(one, other), size)


def ring_power(one, beats, size):
    """The product of so many equal rows round the ring of this size."""
    result = 1
    while beats:
        if beats & 1:
            result = ring_times(result, one, size)
        one = folded(squared(one), size)
        beats >>= 1
    return result


def offsets_on(rule, size):
    """The integer of the offsets round the ring of this size: what comes twice is gone."""
    total = 0
    for offset in rule:
        total ^= 1 << offset % size
    return total


def ring_size(kind, size):
    """The size of the ring on which such a row goes, perhaps unfolded."""
    if kind == "ring":
        return size
    return 2 * size + 2


def strides(kind, rule, size, beats):
    """What a row, on its ring, is multiplied by in so many beats."""
    around = ring_size(kind, size)
    # A lamp lights at its place less the offset, so the rule is turned about here.
    return ring_power(offsets_on(contrary(rule), around), beats, around)


def unfolded_bits(bits, size):
    """The row unfolded, on the ring of twice its size and two."""
    # Read the other way than bits_of reads it, the row is turned about.
    mirrored = int(row_of(bits, size), 2)
    return bits << 1 | mirrored << size + 2


def moved(kind, stride, bits, size):
    """The row of this size multiplied by what strides tells."""
    if kind == "ring":
        return ring_times(stride, bits, size)
    around = ring_size(kind, size)
    whole = ring_times(stride, unfolded_bits(bits, size), around)
    return whole >> 1 & (1 << size) - 1
