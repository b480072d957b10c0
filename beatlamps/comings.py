"""Which rows come from which by so many beats: what ahead, dark rows, depths and before are told by."""

from beatlamps.checks import contrary, is_row_of
from beatlamps.rings import bits_of, moved, row_of, strides
from beatlamps.spaces import are_independent, echelon, lessened, meet_oddly


def images(kind, rule, size, beats):
    """What so many beats make of the rows with one lamp on, by the place of that lamp."""
    stride = strides(kind, rule, size, beats)
    return [moved(kind, stride, 1 << place, size) for place in range(size)]


def becomes(kind, rule, bits, size, beats):
    """What so many beats make of this row."""
    return moved(kind, strides(kind, rule, size, beats), bits, size)


def darkened(kind, rule, size, beats):
    """As many independent rows as there are that so many beats make dark."""
    _, ties = echelon(images(kind, rule, size, beats))
    return ties


def barring(kind, rule, bits, size, beats):
    """Marks that meet each row that comes by so many beats evenly, this one oddly; None if there are none."""
    # Marks meet all that comes by a rule evenly just if the rule turned about makes them dark.
    for marks in darkened(kind, contrary(rule), size, beats):
        if meet_oddly(marks, bits):
            return marks
    return None


def bars(kind, rule, row, beats, marks):
    """Whether these marks bar the row from coming by so many beats."""
    size = len(row)
    marked = bits_of(marks)
    return becomes(kind, contrary(rule), marked, size, beats) == 0 and meet_oddly(marked, bits_of(row))


def source(kind, rule, row, beats):
    """("row", other) with a row that becomes this one by so many beats, or ("garden", marks)."""
    size = len(row)
    bits = bits_of(row)
    pivots, _ = echelon(images(kind, rule, size, beats))
    left, taken = lessened(pivots, bits, 0)
    if left == 0:
        return "row", row_of(taken, size)
    return "garden", row_of(barring(kind, rule, bits, size, beats), size)


def shows_source(kind, rule, row, beats, value):
    """Whether the value is a right result of source."""
    size = len(row)
    if not isinstance(value, tuple) or len(value) != 2 or not is_row_of(value[1], size):
        return False
    word, told = value
    if word == "row":
        return becomes(kind, rule, bits_of(told), size, beats) == bits_of(row)
    return word == "garden" and bars(kind, rule, row, beats, told)


def shows_base(kind, rule, size, value):
    """Whether the value is a tuple of as many independent rows as a beat makes dark."""
    if not isinstance(value, tuple) or len(value) != len(darkened(kind, rule, size, 1)):
        return False
    if not all([is_row_of(row, size) for row in value]):
        return False
    rows = [bits_of(row) for row in value]
    return are_independent(rows) and all([becomes(kind, rule, bits, size, 1) == 0 for bits in rows])
