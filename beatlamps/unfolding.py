"""Quiet presses of small floors that make quiet presses of great ones."""

from beatlamps.checks import GREATEST_ROW, is_between, is_floor, need_floor, need_middle
from beatlamps.errors import BadFloor, NoSpread, NotQuiet
from beatlamps.grids import lamps_of, made_by


def is_silent(middle, presses):
    """Whether these presses leave the dark floor between walls dark."""
    return made_by("walls", middle, lamps_of(presses), len(presses), len(presses[0])) == 0


def reaches(small, great):
    """Whether one more than it is great is a multiple of one more than it is small, and a size of rows."""
    return is_between(great, 1, GREATEST_ROW) and (great + 1) % (small + 1) == 0


def mirrored(items, between, many):
    """The list of so many: the items, the one between, the items in contrary sequence, the one between, and so on."""
    around = items + [between] + list(reversed(items)) + [between]
    return [around[at % len(around)] for at in range(many)]


def spread(middle, presses, high, wide):
    """The quiet presses, so high and so wide, that go on from these as mirrors do."""
    need_middle(middle)
    need_floor(presses)
    if not is_silent(middle, presses):
        raise NotQuiet(presses)
    if not reaches(len(presses), high) or not reaches(len(presses[0]), wide):
        raise NoSpread((high, wide))
    rows = ["".join(mirrored(list(row), "0", wide)) for row in presses]
    return tuple(mirrored(rows, "0" * wide, high))


def is_quiet(middle, presses):
    """Whether these presses leave the dark floor between walls dark, up to 24 rows of 24 lamps."""
    need_middle(middle)
    if not is_floor(presses, GREATEST_ROW):
        raise BadFloor(presses)
    return is_silent(middle, presses)
