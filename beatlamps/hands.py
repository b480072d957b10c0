"""Hands that press lamps at some places, between beats."""

from beatlamps.bits import as_bits
from beatlamps.checks import is_integer, is_lot, is_row_of, need_beats_within, need_kind_and_rule, need_places, need_row
from beatlamps.checks import need_same_size, need_with_row
from beatlamps.comings import becomes
from beatlamps.errors import BadPresses
from beatlamps.leading import filling_beats, is_unmet, led_beats, need_with_placed_size, together, unmet_rows
from beatlamps.rings import bits_of, moved, row_of, strides
from beatlamps.spaces import echelon, evenly_met, lessened, meet_oddly, meets_all_evenly

MOST_PRESSED = 64
MOST_STEERED = 32


def is_presses(value, size):
    """Whether it is a tuple of lots of places of a row of this size."""
    return isinstance(value, tuple) and all([is_lot(lot, 0, size - 1) for lot in value])


def led_bits(kind, rule, bits, size, presses):
    """The row, as bits, behind as many beats, so pressed."""
    stride = strides(kind, rule, size, 1)
    for lot in presses:
        bits = moved(kind, stride, bits, size) ^ as_bits(lot)
    return bits


def led(kind, rule, row, presses):
    """The row behind as many beats as there are lots, so pressed."""
    need_with_row(kind, rule, row)
    size = len(row)
    if not is_presses(presses, size) or len(presses) > MOST_PRESSED:
        raise BadPresses(presses)
    return row_of(led_bits(kind, rule, bits_of(row), size, presses), size)


def lots_pressed(places, beats, taken):
    """The presses of which these are taken, all places of the last beat being the first ones."""
    presses = []
    for at in range(beats):
        first = (beats - 1 - at) * len(places)
        presses.append(tuple([place for number, place in enumerate(places) if taken >> first + number & 1]))
    return tuple(presses)


def presses_making(kind, rule, size, places, goal, beats):
    """Presses by which, in just so many beats, the dark row becomes goal; None if there are none."""
    pivots, _ = echelon(together(led_beats(kind, rule, size, places, beats)))
    left, taken = lessened(pivots, goal, 0)
    return None if left else lots_pressed(places, beats, taken)


def is_steering(places, size, beats, value):
    """Whether it is a tuple of so many lots of these places."""
    if not is_presses(value, size) or len(value) != beats:
        return False
    return all([place in places for lot in value for place in lot])


def barring_marks(vectors, goal, size):
    """Marks that meet each of the vectors evenly, goal oddly."""
    marks = [bits for bits in evenly_met(vectors, size) if meet_oddly(bits, goal)]
    return row_of(marks[0], size)


def need_steered(kind, rule, places, row, goal, beats):
    """The errors of all that steered is told."""
    need_with_row(kind, rule, row)
    need_places(places, len(row))
    need_row(goal)
    need_same_size(row, goal)
    need_beats_within(beats, 0, MOST_STEERED)


def steered(kind, rule, places, row, goal, beats):
    """("presses", presses) by which row becomes goal in just so many beats, or ("never", marks)."""
    need_steered(kind, rule, places, row, goal, beats)
    size = len(row)
    difference = bits_of(goal) ^ becomes(kind, rule, bits_of(row), size, beats)
    presses = presses_making(kind, rule, size, places, difference, beats)
    if presses is not None:
        return "presses", presses
    return "never", barring_marks(together(led_beats(kind, rule, size, places, beats)), difference, size)


def shows_steered(kind, rule, places, row, goal, beats, value):
    """Whether the value is a right result of steered."""
    need_steered(kind, rule, places, row, goal, beats)
    if not isinstance(value, tuple) or len(value) != 2:
        return False
    word, told = value
    size = len(row)
    if word == "presses":
        if not is_steering(places, size, beats, told):
            return False
        return led_bits(kind, rule, bits_of(row), size, told) == bits_of(goal)
    if word != "never" or not is_row_of(told, size):
        return False
    difference = bits_of(goal) ^ becomes(kind, rule, bits_of(row), size, beats)
    vectors = together(led_beats(kind, rule, size, places, beats))
    return meets_all_evenly(vectors, bits_of(told)) and meet_oddly(bits_of(told), difference)


def need_goal(kind, rule, places, goal):
    """The errors of all that soonest is told."""
    need_kind_and_rule(kind, rule)
    need_row(goal)
    need_places(places, len(goal))


def soonest(kind, rule, places, goal):
    """("beats", number, presses) by which the dark row becomes goal in as few beats as can be, or ("never", marks)."""
    need_goal(kind, rule, places, goal)
    size = len(goal)
    # Beats by which no more rows can be made than by one less make no more ever, so as many as lamps are enough.
    for beats in range(size + 1):
        presses = presses_making(kind, rule, size, places, bits_of(goal), beats)
        if presses is not None:
            return "beats", beats, presses
    return "never", barring_marks(together(led_beats(kind, rule, size, places, size)), bits_of(goal), size)


def shows_soonest(kind, rule, places, goal, value):
    """Whether the value is a right result of soonest."""
    right = soonest(kind, rule, places, goal)
    if not isinstance(value, tuple) or len(value) != len(right) or value[0] != right[0]:
        return False
    size = len(goal)
    if right[0] == "beats":
        if not is_integer(value[1]) or value[1] != right[1] or not is_steering(places, size, right[1], value[2]):
            return False
        return led_bits(kind, rule, 0, size, value[2]) == bits_of(goal)
    if not is_row_of(value[1], size):
        return False
    marked = bits_of(value[1])
    return is_unmet(kind, rule, size, places, marked) and meet_oddly(marked, bits_of(goal))


def steers_all(kind, rule, size, places):
    """("all", beats) with the least number behind which the dark row can have become each, or ("barred", marks)."""
    need_with_placed_size(kind, rule, size)
    need_places(places, size)
    beats = filling_beats(kind, rule, size, places)
    if beats is None:
        return "barred", row_of(unmet_rows(kind, rule, size, places)[0], size)
    return "all", beats


def shows_steers_all(kind, rule, size, places, value):
    """Whether the value is a right result of steers_all."""
    word, told = steers_all(kind, rule, size, places)
    if not isinstance(value, tuple) or len(value) != 2 or value[0] != word:
        return False
    if word == "all":
        return is_integer(value[1]) and value[1] == told
    return is_row_of(value[1], size) and is_unmet(kind, rule, size, places, bits_of(value[1]))
