"""What looks tell if some of them are wrong."""

from beatlamps.checks import is_integer, is_lot, is_row_of, is_same_lot, need_number
from beatlamps.looks import is_quarrel
from beatlamps.rings import bits_of, row_of
from beatlamps.sights import fits_told, quarrel_in, sight, start_in, told_but, told_by
from beatlamps.spaces import lots_below
from beatlamps.sure import need_lamp_seen

MOST_WRONG = 2


def wrong_lot(told, number):
    """A lot of so many numbers of looks without which the others do not quarrel, None if there is none."""
    for lot in lots_below(len(told), number):
        if quarrel_in(told_but(told, lot)) is None:
            return lot
    return None


def fewest_wrong(told):
    """A lot of as few numbers of looks as can be wrong."""
    number = 0
    lot = wrong_lot(told, number)
    while lot is None:
        number += 1
        lot = wrong_lot(told, number)
    return lot


def lots_of_one_less(told, number):
    """The ascending list of all lots of one look less than so many; none of no look."""
    return lots_below(len(told), number - 1) if number else []


def least_wrong(looks):
    """(number, lot, start, reasons): the least number of looks that have to be wrong, and why no fewer."""
    told = told_by(looks)
    lot = fewest_wrong(told)
    reasons = [(others, quarrel_in(told_but(told, others))) for others in lots_of_one_less(told, len(lot))]
    return len(lot), lot, row_of(start_in(told_but(told, lot)), looks.size), tuple(reasons)


def is_reason(told, others, value):
    """Whether it is (others, numbers), numbers being a lot of looks that quarrel without these others."""
    if not isinstance(value, tuple) or len(value) != 2:
        return False
    if not is_same_lot(value[0], others) or not is_quarrel(value[1], told):
        return False
    return not any([number in others for number in value[1]])


def shows_least_wrong(looks, value):
    """Whether the value is a right result of least_wrong."""
    told = told_by(looks)
    least = len(fewest_wrong(told))
    if not isinstance(value, tuple) or len(value) != 4:
        return False
    number, lot, start, reasons = value
    if not is_integer(number) or number != least or not is_lot(lot, 0, len(told) - 1) or len(lot) != least:
        return False
    if not is_row_of(start, looks.size) or not fits_told(told_but(told, lot), bits_of(start)):
        return False
    lots = lots_of_one_less(told, least)
    if not isinstance(reasons, tuple) or len(reasons) != len(lots):
        return False
    return all([is_reason(told, others, reason) for others, reason in zip(lots, reasons)])


def need_believed(looks, most, beat, place):
    """BadNumber, then BadBeats, then BadPlace."""
    need_number(most, 0, MOST_WRONG)
    need_lamp_seen(looks, beat, place)


def believed_start(told, most, lamp_told):
    """A start, as bits, that fits what is told of a lamp, and all that was told but at most so many; or None."""
    for number in range(most + 1):
        for lot in lots_below(len(told), number):
            start = start_in(told_but(told, lot) + [lamp_told])
            if start is not None:
                return start
    return None


def believed(looks, most, beat, place):
    """("none",), ("surely", value) or ("open", row, other): the lamp, if at most so many looks are wrong."""
    need_believed(looks, most, beat, place)
    told = told_by(looks)
    seen = sight(looks, beat, place)
    off = believed_start(told, most, seen << 1)
    on = believed_start(told, most, seen << 1 | 1)
    if off is None and on is None:
        return ("none",)
    if off is None or on is None:
        return "surely", 1 if off is None else 0
    return "open", row_of(off, looks.size), row_of(on, looks.size)


def is_believed(looks, told, most, value):
    """Whether it is a start that fits all that was told but at most so many."""
    if not is_row_of(value, looks.size):
        return False
    start = bits_of(value)
    return len([one for one in told if not fits_told([one], start)]) <= most


def shows_believed(looks, most, beat, place, value):
    """Whether the value is a right result of believed."""
    right = believed(looks, most, beat, place)
    if not isinstance(value, tuple) or len(value) != len(right) or value[0] != right[0]:
        return False
    if right[0] == "none":
        return True
    if right[0] == "surely":
        return is_integer(value[1]) and value[1] == right[1]
    told = told_by(looks)
    if not all([is_believed(looks, told, most, row) for row in value[1:]]):
        return False
    seen = sight(looks, beat, place)
    return fits_told([seen << 1], bits_of(value[1])) and fits_told([seen << 1 | 1], bits_of(value[2]))
