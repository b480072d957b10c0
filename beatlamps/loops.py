"""Tails and loops: behind how many beats rows come again, and by how many."""

from beatlamps.checks import need_row, need_same_size, need_with_row, need_with_size
from beatlamps.comings import images
from beatlamps.errors import TooLong
from beatlamps.measures import measure
from beatlamps.own import own, own_row
from beatlamps.polys import core
from beatlamps.rings import bits_of, moved, strides
from beatlamps.spaces import echelon

GREATEST_LOOPING = 16
MOST_BEATS = 4096


def tail(kind, rule, row):
    """The least number of beats behind which the row has become one that comes again."""
    return core(own_row(kind, rule, row))[0]


def period(kind, rule, row):
    """The least number of beats, from 1 on, by which what the row becomes comes again."""
    return measure(core(own_row(kind, rule, row))[1])


def tails(kind, rule, size):
    """The greatest tail of all rows of this size."""
    return core(own(kind, rule, size))[0]


def periods(kind, rule, size):
    """The least number of beats, from 1 on, by which all rows that come again come again."""
    return measure(core(own(kind, rule, size))[1])


def staying(kind, rule, size, beats):
    """How many rows of this size come again by so many beats."""
    turnings = [made ^ 1 << place for place, made in enumerate(images(kind, rule, size, beats))]
    _, ties = echelon(turnings)
    return 1 << len(ties)


def loops(kind, rule, size):
    """The ascending tuple of (period, how many): all loops."""
    need_with_size(kind, rule, size)
    if size > GREATEST_LOOPING:
        raise TooLong(GREATEST_LOOPING)
    whole = periods(kind, rule, size)
    found = []
    for beats in range(1, whole + 1):
        if whole % beats == 0:
            sooner = [beat * many for beat, many in found if beats % beat == 0]
            rows = staying(kind, rule, size, beats) - sum(sooner)
            if rows:
                found.append((beats, rows // beats))
    return tuple(found)


def comes_to(kind, rule, one, other):
    """The least number of beats behind which one has become other, None if it never does."""
    need_with_row(kind, rule, one)
    need_row(other)
    need_same_size(one, other)
    most = tail(kind, rule, one) + period(kind, rule, one)
    if most > MOST_BEATS:
        raise TooLong(MOST_BEATS)
    size = len(one)
    stride = strides(kind, rule, size, 1)
    going, goal = bits_of(one), bits_of(other)
    for beats in range(most):
        if going == goal:
            return beats
        going = moved(kind, stride, going, size)
    return None
