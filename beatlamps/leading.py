"""Where beats lead lamps at some places: what hands make there.

By the rule turned about this is what is seen there: the sums of a row's lamps that the lamps at these places become.
"""

from beatlamps.checks import need_kind_and_rule, need_size
from beatlamps.comings import images
from beatlamps.rings import moved, strides
from beatlamps.spaces import evenly_met, lessened, meets_all_evenly

GREATEST_PLACED = 16


def need_with_placed_size(kind, rule, size):
    """The errors of kind and rule, then BadSize unless the row is one of those that places are told of."""
    need_kind_and_rule(kind, rule)
    need_size(size, 1, GREATEST_PLACED)


def led_beats(kind, rule, size, places, beats):
    """For each number of beats below this one the list of what they make of the rows with one lamp on, at a place."""
    stride = strides(kind, rule, size, 1)
    going = [1 << place for place in places]
    led = []
    for _ in range(beats):
        led.append(going)
        going = [moved(kind, stride, bits, size) for bits in going]
    return led


def together(led):
    """All of them in one list, by beats, then by places."""
    return [bits for going in led for bits in going]


def filling_beats(kind, rule, size, places):
    """The least number of beats below which what is led makes, in sums, all rows; None if none does."""
    pivots = {}
    # Beats that make no new sums make none ever, so there are no more of them than lamps.
    for at, going in enumerate(led_beats(kind, rule, size, places, size)):
        for bits in going:
            left, _ = lessened(pivots, bits, 0)
            if left:
                pivots[left.bit_length()] = (left, 0)
        if len(pivots) == size:
            return at + 1
    return None


def unmet_rows(kind, rule, size, places):
    """As many independent rows as there are that meet evenly all that is led by any number of beats."""
    return evenly_met(together(led_beats(kind, rule, size, places, size)), size)


def is_unmet(kind, rule, size, places, bits):
    """Whether this row is not dark, and meets evenly all that is led by any number of beats."""
    return bits != 0 and meets_all_evenly(together(led_beats(kind, rule, size, places, size)), bits)


def darkened_by(kind, rule, size, powers):
    """What the rows with one lamp on come to behind as many beats as the powers tell, all these together."""
    sums = [0] * size
    for beats in powers:
        sums = [one ^ other for one, other in zip(sums, images(kind, rule, size, beats))]
    return sums
