"""From how many beats ahead a row comes, and the rows so many beats ahead."""

from beatlamps.checks import is_integer, is_row_of, need_beats, need_with_row
from beatlamps.comings import barring, bars, shows_source, source
from beatlamps.rings import bits_of, row_of


def depth(kind, rule, row):
    """("always",), or ("beats", number, marks): the most beats by which it comes, and what bars it from more."""
    need_with_row(kind, rule, row)
    size = len(row)
    bits = bits_of(row)
    # With each beat that bars some rows more at most half as many are left as ahead of it; so what comes by as many
    # beats as there are lamps comes by any number.
    for beats in range(1, size + 1):
        marks = barring(kind, rule, bits, size, beats)
        if marks is not None:
            return "beats", beats - 1, row_of(marks, size)
    return ("always",)


def shows_depth(kind, rule, row, value):
    """Whether the value is a right result of depth."""
    right = depth(kind, rule, row)
    if not isinstance(value, tuple) or len(value) != len(right):
        return False
    if right == ("always",):
        return value == right
    word, number, marks = value
    if word != "beats" or not is_integer(number) or number != right[1]:
        return False
    return is_row_of(marks, len(row)) and bars(kind, rule, row, number + 1, marks)


def before(kind, rule, row, beats):
    """("row", other) with a row that becomes this one by so many beats, or ("garden", marks)."""
    need_with_row(kind, rule, row)
    need_beats(beats)
    return source(kind, rule, row, beats)


def shows_before(kind, rule, row, beats, value):
    """Whether the value is a right result of before."""
    need_with_row(kind, rule, row)
    need_beats(beats)
    return shows_source(kind, rule, row, beats, value)
