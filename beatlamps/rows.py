"""Rows, and what beats make of them, round a ring or between walls."""

from beatlamps.bits import as_lot
from beatlamps.checks import GREATEST_ROW, need_beats, need_row, need_row_size, need_rule, need_same_size
from beatlamps.checks import need_size, need_with_row
from beatlamps.comings import becomes
from beatlamps.rings import bits_of, offsets_on, ring_power, ring_size, row_of, unfolded_bits


def after(kind, rule, row, beats):
    """The row behind so many beats."""
    need_with_row(kind, rule, row)
    need_beats(beats)
    size = len(row)
    return row_of(becomes(kind, rule, bits_of(row), size, beats), size)


def unfolded(row):
    """The row unfolded: a dark lamp, the row, a dark lamp, the row turned about."""
    need_row(row)
    size = len(row)
    return row_of(unfolded_bits(bits_of(row), size), ring_size("walls", size))


def summed(one, other):
    """The sum, lamp by lamp."""
    need_row(one)
    need_row(other)
    need_same_size(one, other)
    return row_of(bits_of(one) ^ bits_of(other), len(one))


def beat_offsets(rule, size, beats):
    """The offsets a beat by which makes, on this ring, what so many beats by the rule make."""
    need_rule(rule)
    need_row_size(size)
    need_beats(beats)
    return as_lot(ring_power(offsets_on(rule, size), beats, size))


def wall_polynomial(size):
    """The polynomial of least degree in the cross that makes each row of this size dark between walls."""
    need_size(size, 0, GREATEST_ROW)
    less, bits = 0, 1
    for _ in range(size):
        less, bits = bits, bits << 1 ^ less
    return as_lot(bits)
