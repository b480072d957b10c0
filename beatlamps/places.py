"""Places that tell rows to whoever sees the lamps there, beat by beat."""

from math import gcd

from beatlamps.checks import ENDLESS, contrary, is_integer, is_lot, is_places, is_row_of, is_same_lot, need_places
from beatlamps.checks import need_size
from beatlamps.errors import BadPlaces, TooLong
from beatlamps.leading import darkened_by, filling_beats, is_unmet, need_with_placed_size, unmet_rows
from beatlamps.own import own
from beatlamps.plain import factors
from beatlamps.rings import bits_of, row_of
from beatlamps.spaces import lots_below, rank_of

GREATEST_SEARCHED = 10
MOST_BETWEEN = 8


def telling_beats(kind, rule, size, places):
    """The least number of beats below which these places tell all, None if they never do."""
    return filling_beats(kind, contrary(rule), size, places)


def unseen_row(kind, rule, size, places):
    """A row, not dark, whose lamps at these places are always off."""
    return row_of(unmet_rows(kind, contrary(rule), size, places)[0], size)


def is_unseen(kind, rule, size, places, value):
    """Whether it is a row, not dark, whose lamps at these places are always off."""
    return is_row_of(value, size) and is_unmet(kind, contrary(rule), size, places, bits_of(value))


def need_with_places(kind, rule, size, places):
    """The errors of kind, rule, size and places."""
    need_with_placed_size(kind, rule, size)
    need_places(places, size)


def tells_all(kind, rule, size, places):
    """("all", beats) with the least number of beats below which the places tell all, or ("unseen", row)."""
    need_with_places(kind, rule, size, places)
    beats = telling_beats(kind, rule, size, places)
    if beats is None:
        return "unseen", unseen_row(kind, rule, size, places)
    return "all", beats


def shows_tells_all(kind, rule, size, places, value):
    """Whether the value is a right result of tells_all."""
    word, told = tells_all(kind, rule, size, places)
    if not isinstance(value, tuple) or len(value) != 2 or value[0] != word:
        return False
    if word == "all":
        return is_integer(value[1]) and value[1] == told
    return is_unseen(kind, rule, size, places, value[1])


def need_searched(kind, rule, size):
    """The errors of kind, rule and size, then TooLong if the row has too many lots of places."""
    need_with_placed_size(kind, rule, size)
    if size > GREATEST_SEARCHED:
        raise TooLong(GREATEST_SEARCHED)


def telling_lot(kind, rule, size, many):
    """So many places that tell all, None if there are none."""
    for lot in lots_below(size, many):
        if telling_beats(kind, rule, size, lot) is not None:
            return lot
    return None


def fewest_telling(kind, rule, size):
    """As few places as can be that tell all."""
    many = 1
    lot = telling_lot(kind, rule, size, many)
    while lot is None:
        many += 1
        lot = telling_lot(kind, rule, size, many)
    return lot


def fewest_places(kind, rule, size):
    """(places, reasons): as few places as can be that tell all, and why no fewer."""
    need_searched(kind, rule, size)
    places = fewest_telling(kind, rule, size)
    fewer = lots_below(size, len(places) - 1)
    return places, tuple([(lot, unseen_row(kind, rule, size, lot)) for lot in fewer])


def is_lacking(kind, rule, size, lot, value):
    """Whether it is (lot, row) with this very lot, and a row that is unseen by it."""
    if not isinstance(value, tuple) or len(value) != 2:
        return False
    return is_same_lot(value[0], lot) and is_unseen(kind, rule, size, lot, value[1])


def shows_fewest_places(kind, rule, size, value):
    """Whether the value is a right result of fewest_places."""
    need_searched(kind, rule, size)
    many = len(fewest_telling(kind, rule, size))
    if not isinstance(value, tuple) or len(value) != 2:
        return False
    places, reasons = value
    if not is_places(places, size) or len(places) != many or telling_beats(kind, rule, size, places) is None:
        return False
    fewer = lots_below(size, many - 1)
    if not isinstance(reasons, tuple) or len(reasons) != len(fewer):
        return False
    return all([is_lacking(kind, rule, size, lot, reason) for lot, reason in zip(fewer, reasons)])


def all_bars(kind, rule, size):
    """All (number, factor): how many rows each plain factor of the own polynomial darkens, for each of its degrees."""
    bars_found = []
    for factor, _ in factors(own(kind, rule, size)):
        darkened_rows = size - rank_of(darkened_by(kind, rule, size, factor))
        bars_found.append((darkened_rows // factor[-1], factor))
    return bars_found


def bar(kind, rule, size):
    """(number, factor): no fewer places ever tell all, as this factor of the own polynomial shows."""
    need_with_placed_size(kind, rule, size)
    return max(all_bars(kind, rule, size))


def shows_bar(kind, rule, size, value):
    """Whether the value is a right result of bar."""
    number, _ = bar(kind, rule, size)
    if not isinstance(value, tuple) or len(value) != 2 or not is_integer(value[0]) or value[0] != number:
        return False
    return any([is_same_lot(value[1], factor) for many, factor in all_bars(kind, rule, size) if many == number])


def hidden_between(places, size):
    """The number for which 2 ** hidden_between rows are off at all these places, by the cross between walls."""
    need_size(size, 1, ENDLESS)
    if not is_lot(places, 0, size - 1) or not 1 <= len(places) <= MOST_BETWEEN:
        raise BadPlaces(places)
    divisor = size + 1
    for place in places:
        divisor = gcd(divisor, place + 1)
    return divisor - 1
