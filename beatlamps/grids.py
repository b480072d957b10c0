"""Floors as integers, the lamp in the row k and the column j in the bit k times the width, plus j."""

from beatlamps.checks import is_floor_of
from beatlamps.rings import bits_of, row_of
from beatlamps.spaces import are_independent, echelon, meet_oddly


def lamps_of(floor):
    """The integer of a floor."""
    return bits_of("".join(floor))


def floor_of(lamps, high, wide):
    """The floor, so high and so wide, that the integer is."""
    row = row_of(lamps, high * wide)
    return tuple([row[at * wide:at * wide + wide] for at in range(high)])


def beside(lamps, high, wide, is_ring):
    """The lamps that turn if the left and right neighbours of these places do."""
    first = 0
    for at in range(high):
        first ^= 1 << at * wide
    last = first << wide - 1
    turning = (lamps ^ lamps & last) << 1 ^ (lamps ^ lamps & first) >> 1
    if is_ring:
        turning ^= (lamps & last) >> wide - 1 ^ (lamps & first) << wide - 1
    return turning


def above_and_below(lamps, high, wide, is_ring):
    """The lamps that turn if the upper and lower neighbours of these places do."""
    whole = (1 << high * wide) - 1
    turning = lamps << wide & whole ^ lamps >> wide
    if is_ring:
        far = high * wide - wide
        turning ^= lamps << far & whole ^ lamps >> far
    return turning


def made_by(sides, middle, presses, high, wide):
    """What these presses make of the dark floor."""
    made = beside(presses, high, wide, sides != "walls") ^ above_and_below(presses, high, wide, sides == "ring")
    if middle:
        made ^= presses
    return made


def single_presses(sides, middle, high, wide):
    """What each press alone makes of the dark floor."""
    return [made_by(sides, middle, 1 << place, high, wide) for place in range(high * wide)]


def silent_presses(sides, middle, high, wide):
    """As many independent presses as there are that leave the dark floor dark."""
    _, ties = echelon(single_presses(sides, middle, high, wide))
    return ties


def is_made(sides, middle, presses, floor):
    """Whether these presses, a floor, make this floor of the dark one."""
    return made_by(sides, middle, lamps_of(presses), len(floor), len(floor[0])) == lamps_of(floor)


def bars_floor(sides, middle, marks, floor):
    """Whether these marks bar the floor from being made."""
    marked = lamps_of(marks)
    # A place turns another one as often as that one turns it: so marks that meet what each press makes evenly
    # are just the presses that leave the dark floor dark.
    silent = made_by(sides, middle, marked, len(floor), len(floor[0])) == 0
    return silent and meet_oddly(marked, lamps_of(floor))


def shows_silent(sides, middle, high, wide, value):
    """Whether the value is a tuple of as many independent presses as there are that leave the dark floor dark."""
    if not isinstance(value, tuple) or len(value) != len(silent_presses(sides, middle, high, wide)):
        return False
    if not all([is_floor_of(presses, high, wide) for presses in value]):
        return False
    told = [lamps_of(presses) for presses in value]
    return are_independent(told) and all([made_by(sides, middle, lamps, high, wide) == 0 for lamps in told])
