"""Rows that come from rows by a beat, and marks that bar others from coming from any."""

from beatlamps.bits import as_lot, bezout, degree_of
from beatlamps.checks import contrary, need_row_size, need_rule, need_with_row, need_with_size
from beatlamps.comings import darkened, shows_base, shows_source, source
from beatlamps.errors import Garden, Loses, TooMany
from beatlamps.rings import bits_of, folded, offsets_on, row_of
from beatlamps.spaces import all_sums

MOST_AHEAD = 256


def ahead(kind, rule, row):
    """("row", other) with a row from which it comes, or ("garden", marks) with what bars it."""
    need_with_row(kind, rule, row)
    return source(kind, rule, row, 1)


def shows_ahead(kind, rule, row, value):
    """Whether the value is a right result of ahead."""
    need_with_row(kind, rule, row)
    return shows_source(kind, rule, row, 1, value)


def lost(kind, rule, size):
    """The number for which 2 ** lost rows of this size become dark."""
    need_with_size(kind, rule, size)
    return len(darkened(kind, rule, size, 1))


def dark_rows(kind, rule, size):
    """As many independent rows as there are that become dark."""
    need_with_size(kind, rule, size)
    return tuple([row_of(bits, size) for bits in darkened(kind, rule, size, 1)])


def shows_dark_rows(kind, rule, size, value):
    """Whether the value is a right result of dark_rows."""
    need_with_size(kind, rule, size)
    return shows_base(kind, rule, size, value)


def all_marks(kind, rule, size):
    """As many independent marks as there are that meet each row that comes from some row evenly."""
    need_with_size(kind, rule, size)
    return dark_rows(kind, contrary(rule), size)


def shows_all_marks(kind, rule, size, value):
    """Whether the value is a right result of all_marks."""
    need_with_size(kind, rule, size)
    return shows_base(kind, contrary(rule), size, value)


def all_ahead(kind, rule, row):
    """The ascending tuple of all rows from which it comes."""
    word, told = ahead(kind, rule, row)
    if word == "garden":
        raise Garden(told)
    size = len(row)
    dark = darkened(kind, rule, size, 1)
    if 1 << len(dark) > MOST_AHEAD:
        raise TooMany(MOST_AHEAD)
    first = bits_of(told)
    return tuple(sorted([row_of(first ^ bits, size) for bits in all_sums(dark)]))


def undoing(rule, size):
    """The offsets a beat by which takes each beat of the rule back, on the ring."""
    need_rule(rule)
    need_row_size(size)
    factor, inverse, _ = bezout(offsets_on(rule, size), 1 << size ^ 1)
    if factor != 1:
        raise Loses(degree_of(factor))
    return as_lot(folded(inverse, size))
