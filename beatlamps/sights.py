"""What looks tell, as sums of lamps: a sight is the row, as bits, that meets a start oddly if the lamp is on.

What was told by a look is its sight, one place further up, and in the bit 0 whether the lamp was on. So a start, one
place further up, with a 1 in the bit 0, meets evenly what the looks told that it fits; and looks quarrel if the bit 0
alone is a sum of what they told.
"""

from beatlamps.bits import as_lot
from beatlamps.checks import contrary
from beatlamps.comings import becomes
from beatlamps.spaces import echelon, meet_oddly


def sight(looks, beat, place):
    """The sight of the lamp at this place behind so many beats."""
    # A start's future meets a lamp as the start meets what the rule turned about makes of this lamp.
    return becomes(looks.kind, contrary(looks.rule), 1 << place, looks.size, beat)


def sights(looks):
    """The sights of all looks."""
    return [sight(looks, beat, place) for beat, place, _ in looks.seen]


def told_by(looks):
    """What was told by all looks."""
    return [sight(looks, beat, place) << 1 | seen for beat, place, seen in looks.seen]


def told_but(told, others):
    """What was told, but by the looks of these numbers: these tell nothing, and all keep their numbers."""
    return [0 if number in others else one for number, one in enumerate(told)]


def quarrel_in(told):
    """A lot of numbers of looks that quarrel, None if there is none."""
    pivots, _ = echelon(told)
    if 1 not in pivots:
        return None
    return as_lot(pivots[1][1])


def start_in(told):
    """A start, as bits, that fits all that was told, None if there is none."""
    pivots, _ = echelon(told)
    if 1 in pivots:
        return None
    start = 1
    # What is met by a pivot below its own place is settled ahead of it, so its own place settles the rest.
    for length in sorted(pivots):
        if meet_oddly(pivots[length][0], start):
            start ^= 1 << length - 1
    return start >> 1


def fits_told(told, start):
    """Whether this start, as bits, fits all that was told."""
    return not any([meet_oddly(one, start << 1 | 1) for one in told])
