"""Chasing: between walls, from the second row on, each place below a lamp that is on is pressed."""

from beatlamps.checks import GREATEST_ROW, need_floor, need_middle, need_row, need_size
from beatlamps.grids import made_by
from beatlamps.rings import bits_of, row_of


def across(middle, presses, wide):
    """What these presses turn in their own row."""
    return made_by("walls", middle, presses, 1, wide)


def chased(middle, floor):
    """(presses, last): the presses that chase the lamps downwards, and the last row then."""
    need_middle(middle)
    need_floor(floor)
    wide = len(floor[0])
    above, left = 0, bits_of(floor[0])
    rows = [above]
    for row in floor[1:]:
        rows.append(left)
        above, left = left, bits_of(row) ^ above ^ across(middle, left, wide)
    return tuple([row_of(presses, wide) for presses in rows]), row_of(left, wide)


def last_row(middle, high, first):
    """The last row of a dark floor so high, if first is pressed in its first row, and then it is chased."""
    need_middle(middle)
    need_size(high, 1, GREATEST_ROW)
    need_row(first)
    wide = len(first)
    above, left = 0, bits_of(first)
    for _ in range(high):
        above, left = left, above ^ across(middle, left, wide)
    return row_of(left, wide)
