"""What values of the definitions are, and the errors for values that are none."""

from beatlamps.errors import BadBeats, BadFloor, BadKind, BadMiddle, BadNumber, BadPicture, BadPlace, BadPlaces
from beatlamps.errors import BadPolynomial, BadRow, BadRule, BadSides, BadSize, NotEven, OtherSize

GREATEST_POWER = 400
GREATEST_OFFSET = 6
GREATEST_ROW = 24
GREATEST_FLOOR = 8
GREATEST_PICTURE = 250
ENDLESS = 10 ** 30
KINDS = ("ring", "walls")
SIDES = ("walls", "tube", "ring")


def is_integer(value):
    """Whether it is an int that is not a bool."""
    return isinstance(value, int) and not isinstance(value, bool)


def is_between(value, least, greatest):
    """Whether it is an integer within these bounds."""
    return is_integer(value) and least <= value <= greatest


def is_lot(value, least, greatest):
    """Whether it is an ascending tuple of unlike integers within these bounds."""
    if not isinstance(value, tuple):
        return False
    if not all([is_between(item, least, greatest) for item in value]):
        return False
    return all([value[at - 1] < value[at] for at in range(1, len(value))])


def is_polynomial(value):
    """Whether it is a polynomial."""
    return is_lot(value, 0, GREATEST_POWER)


def is_same_lot(value, lot):
    """Whether it is this lot, all of its items integers."""
    return isinstance(value, tuple) and all([is_integer(item) for item in value]) and value == lot


def is_kind(value):
    """Whether it is a kind."""
    return isinstance(value, str) and value in KINDS


def is_rule(value):
    """Whether it is a rule."""
    return is_lot(value, -GREATEST_OFFSET, GREATEST_OFFSET) and len(value) > 0


def is_rule_of(kind, value):
    """Whether it is a rule by which rows of this kind go."""
    return is_rule(value) and (kind == "ring" or contrary(value) == value)


def is_places(value, size):
    """Whether it is a lot of one or more of the places of a row of this size."""
    return is_lot(value, 0, size - 1) and len(value) > 0


def is_row(value):
    """Whether it is a row."""
    if not isinstance(value, str) or not 1 <= len(value) <= GREATEST_ROW:
        return False
    return all([sign in "01" for sign in value])


def is_row_of(value, size):
    """Whether it is a row of this size."""
    return is_row(value) and len(value) == size


def is_floor(value, greatest):
    """Whether it is a tuple of rows of one size, no more of them, nor greater ones, than told."""
    if not isinstance(value, tuple) or not 1 <= len(value) <= greatest:
        return False
    if not all([is_row(row) and len(row) <= greatest for row in value]):
        return False
    return all([len(row) == len(value[0]) for row in value])


def is_floor_of(value, high, wide):
    """Whether it is a floor so high and so wide."""
    return is_floor(value, GREATEST_FLOOR) and len(value) == high and len(value[0]) == wide


def contrary(rule):
    """The rule turned about."""
    return tuple([-offset for offset in reversed(rule)])


def need_polynomial(value):
    """BadPolynomial unless it is one."""
    if not is_polynomial(value):
        raise BadPolynomial(value)


def need_beats(value):
    """BadBeats unless it is a number of beats from 0 to 10 ** 30."""
    need_beats_within(value, 0, ENDLESS)


def need_beats_within(value, least, greatest):
    """BadBeats unless it is an integer within these bounds."""
    if not is_between(value, least, greatest):
        raise BadBeats(value)


def need_size(value, least, greatest):
    """BadSize unless it is an integer within these bounds."""
    if not is_between(value, least, greatest):
        raise BadSize(value)


def need_row_size(value):
    """BadSize unless it is the size of a row."""
    need_size(value, 1, GREATEST_ROW)


def need_number(value, least, greatest):
    """BadNumber unless it is an integer within these bounds."""
    if not is_between(value, least, greatest):
        raise BadNumber(value)


def need_rule(value):
    """BadRule unless it is a rule."""
    if not is_rule(value):
        raise BadRule(value)


def need_even(rule):
    """NotEven unless the rule is even."""
    if contrary(rule) != rule:
        raise NotEven(rule)


def need_kind(value):
    """BadKind unless it is a kind."""
    if not is_kind(value):
        raise BadKind(value)


def need_kind_and_rule(kind, rule):
    """BadKind, then BadRule, then NotEven between walls: they come ahead of all other errors."""
    need_kind(kind)
    need_rule(rule)
    if kind == "walls":
        need_even(rule)


def need_row(value):
    """BadRow unless it is a row."""
    if not is_row(value):
        raise BadRow(value)


def need_same_size(one, other):
    """OtherSize, with the second row, unless both are of one size."""
    if len(one) != len(other):
        raise OtherSize(other)


def need_with_row(kind, rule, row):
    """The errors of kind, rule and row."""
    need_kind_and_rule(kind, rule)
    need_row(row)


def need_with_size(kind, rule, size):
    """The errors of kind, rule and size."""
    need_kind_and_rule(kind, rule)
    need_row_size(size)


def need_sides(value):
    """BadSides unless it tells what stands round a floor."""
    if not isinstance(value, str) or value not in SIDES:
        raise BadSides(value)


def need_middle(value):
    """BadMiddle unless it is True or False."""
    if not isinstance(value, bool):
        raise BadMiddle(value)


def need_floor(value):
    """BadFloor unless it is a floor."""
    if not is_floor(value, GREATEST_FLOOR):
        raise BadFloor(value)


def need_floor_size(high, wide):
    """BadSize, for high, then for wide, unless they are those of a floor."""
    need_size(high, 1, GREATEST_FLOOR)
    need_size(wide, 1, GREATEST_FLOOR)


def need_picture(value):
    """BadPicture unless it is a picture."""
    if not is_lot(value, -ENDLESS, ENDLESS) or len(value) > GREATEST_PICTURE:
        raise BadPicture(value)


def need_place(value, size):
    """BadPlace unless it is one of the places of a row of this size."""
    if not is_between(value, 0, size - 1):
        raise BadPlace(value)


def need_places(value, size):
    """BadPlaces unless it is a lot of one or more of the places of a row of this size."""
    if not is_places(value, size):
        raise BadPlaces(value)
