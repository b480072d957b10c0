"""Floors, and the presses that make them of the dark one."""

from beatlamps.bits import how_many
from beatlamps.checks import is_floor_of, is_integer, need_floor, need_floor_size, need_middle, need_sides
from beatlamps.errors import Barred, TooMany
from beatlamps.grids import bars_floor, floor_of, is_made, lamps_of, made_by, shows_silent, silent_presses
from beatlamps.grids import single_presses
from beatlamps.spaces import all_sums, echelon, lessened, meet_oddly

MOST_SILENT = 12


def need_with_floor(sides, middle, floor):
    """The errors of sides, middle and floor."""
    need_sides(sides)
    need_middle(middle)
    need_floor(floor)


def need_with_floor_size(sides, middle, high, wide):
    """The errors of sides, middle, high and wide."""
    need_sides(sides)
    need_middle(middle)
    need_floor_size(high, wide)


def pressed(sides, middle, presses):
    """The floor that comes of the dark one."""
    need_with_floor(sides, middle, presses)
    high, wide = len(presses), len(presses[0])
    return floor_of(made_by(sides, middle, lamps_of(presses), high, wide), high, wide)


def presses_for(sides, middle, floor):
    """("presses", presses) that make this floor, or ("barred", marks) that bar it."""
    need_with_floor(sides, middle, floor)
    high, wide = len(floor), len(floor[0])
    lamps = lamps_of(floor)
    pivots, ties = echelon(single_presses(sides, middle, high, wide))
    left, taken = lessened(pivots, lamps, 0)
    if left == 0:
        return "presses", floor_of(taken, high, wide)
    marks = [silent for silent in ties if meet_oddly(silent, lamps)]
    return "barred", floor_of(marks[0], high, wide)


def shows_presses_for(sides, middle, floor, value):
    """Whether the value is a right result of presses_for."""
    need_with_floor(sides, middle, floor)
    if not isinstance(value, tuple) or len(value) != 2 or not is_floor_of(value[1], len(floor), len(floor[0])):
        return False
    word, told = value
    if word == "presses":
        return is_made(sides, middle, told, floor)
    return word == "barred" and bars_floor(sides, middle, told, floor)


def floor_lost(sides, middle, high, wide):
    """The number for which 2 ** floor_lost presses leave the dark floor dark."""
    need_with_floor_size(sides, middle, high, wide)
    return len(silent_presses(sides, middle, high, wide))


def quiet(sides, middle, high, wide):
    """As many independent presses as there are that leave the dark floor dark."""
    need_with_floor_size(sides, middle, high, wide)
    return tuple([floor_of(silent, high, wide) for silent in silent_presses(sides, middle, high, wide)])


def shows_quiet(sides, middle, high, wide, value):
    """Whether the value is a right result of quiet."""
    need_with_floor_size(sides, middle, high, wide)
    return shows_silent(sides, middle, high, wide, value)


def fewest_presses(sides, middle, floor):
    """(number, presses): the fewest places that make the floor, if they are pressed."""
    word, told = presses_for(sides, middle, floor)
    if word == "barred":
        raise Barred(told)
    high, wide = len(floor), len(floor[0])
    silent = silent_presses(sides, middle, high, wide)
    if len(silent) > MOST_SILENT:
        raise TooMany(MOST_SILENT)
    first = lamps_of(told)
    number, lamps = min([(how_many(first ^ other), first ^ other) for other in all_sums(silent)])
    return number, floor_of(lamps, high, wide)


def shows_fewest_presses(sides, middle, floor, value):
    """Whether the value is a right result of fewest_presses."""
    number, _ = fewest_presses(sides, middle, floor)
    if not isinstance(value, tuple) or len(value) != 2 or not is_floor_of(value[1], len(floor), len(floor[0])):
        return False
    if not is_integer(value[0]) or value[0] != number or "".join(value[1]).count("1") != number:
        return False
    return is_made(sides, middle, value[1], floor)


def all_on(sides, high, wide):
    """Presses, with the middle, that make the floor all of whose lamps are on."""
    need_sides(sides)
    need_floor_size(high, wide)
    return presses_for(sides, True, ("1" * wide,) * high)[1]


def shows_all_on(sides, high, wide, value):
    """Whether the value is a right result of all_on."""
    need_sides(sides)
    need_floor_size(high, wide)
    return is_floor_of(value, high, wide) and is_made(sides, True, value, ("1" * wide,) * high)
