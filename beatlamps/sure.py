"""What looks tell for sure, which of them are needless, and what to look at further."""

from beatlamps.bits import as_lot
from beatlamps.checks import is_between, is_lot, is_row_of, need_beats, need_place
from beatlamps.errors import BadOffers
from beatlamps.looks import could_be_seen, holding, need_fitting
from beatlamps.rings import bits_of, row_of
from beatlamps.sights import fits_told, sight, sights, start_in, told_but, told_by
from beatlamps.spaces import echelon, evenly_met, lessened, meets_all_evenly, rank_of

MOST_OFFERS = 8


def need_lamp_seen(looks, beat, place):
    """BadBeats, then BadPlace, unless the lamp can be looked at."""
    need_beats(beat)
    need_place(place, looks.size)


def sure(looks, beat, place):
    """("sure", value, numbers) of the lamp behind so many beats, or ("open", row, other)."""
    need_lamp_seen(looks, beat, place)
    need_fitting(looks)
    told = told_by(looks)
    off = sight(looks, beat, place) << 1
    pivots, _ = echelon(told)
    left, taken = lessened(pivots, off, 0)
    # Without quarrels the bit 0 is no pivot, so it alone is left of a lamp that is shown to be on.
    if left <= 1:
        return "sure", left, as_lot(taken)
    starts = [start_in(told + [off]), start_in(told + [off | 1])]
    return "open", row_of(starts[0], looks.size), row_of(starts[1], looks.size)


def are_open(looks, told, seen, rows):
    """Whether the lamp of this sight is off by the first of two rows, on by the other, and both fit what was told."""
    if not all([is_row_of(row, looks.size) for row in rows]):
        return False
    off, on = bits_of(rows[0]), bits_of(rows[1])
    return fits_told(told + [seen << 1], off) and fits_told(told + [seen << 1 | 1], on)


def shows_sure(looks, beat, place, value):
    """Whether the value is a right result of sure."""
    need_lamp_seen(looks, beat, place)
    need_fitting(looks)
    if not isinstance(value, tuple) or len(value) != 3:
        return False
    told = told_by(looks)
    seen = sight(looks, beat, place)
    if value[0] == "open":
        return are_open(looks, told, seen, value[1:])
    if value[0] != "sure" or not is_between(value[1], 0, 1) or not is_lot(value[2], 0, len(told) - 1):
        return False
    total = 0
    for number in value[2]:
        total ^= told[number]
    return total == seen << 1 | value[1]


def sure_from(looks, place):
    """The least number of beats from which on the lamp is sure, None if there is none."""
    need_place(place, looks.size)
    need_fitting(looks)
    pivots, _ = echelon(sights(looks))
    # Each sight is a sum of those of any size consecutive beats behind its tail, and the tail is no longer than size.
    # So what is not sure behind so many beats is not sure again and again.
    unsure = []
    for beat in range(2 * looks.size):
        left, _ = lessened(pivots, sight(looks, beat, place), 0)
        if left:
            unsure.append(beat)
    if unsure == []:
        return 0
    return unsure[-1] + 1 if unsure[-1] < looks.size else None


def is_needless(told, number):
    """Whether the same starts fit if the look of this number is left out."""
    pivots, _ = echelon(told_but(told, (number,)))
    return 1 in pivots or lessened(pivots, told[number], 0)[0] == 0


def needless(looks):
    """The lot of the numbers of the looks each of which, by itself, can be left out."""
    told = told_by(looks)
    return tuple([number for number in range(len(told)) if is_needless(told, number)])


def is_offer(looks, value):
    """Whether it is a (beat, place) that could be looked at, and is not."""
    if not isinstance(value, tuple) or len(value) != 2:
        return False
    return could_be_seen(value[0], value[1], looks.size) and holding(looks.seen, value[0], value[1]) is None


def need_offers(looks, value):
    """BadOffers unless it is an ascending tuple of unlike offers."""
    if not isinstance(value, tuple) or not 1 <= len(value) <= MOST_OFFERS:
        raise BadOffers(value)
    if not all([is_offer(looks, offer) for offer in value]):
        raise BadOffers(value)
    if not all([value[at - 1] < value[at] for at in range(1, len(value))]):
        raise BadOffers(value)


def further(looks, offers):
    """("looks", choice) of as few numbers of offers as can be that leave one start, or ("hidden", row)."""
    need_offers(looks, offers)
    need_fitting(looks)
    vectors = sights(looks)
    choice = []
    for number, (beat, place) in enumerate(offers):
        offered = sight(looks, beat, place)
        if rank_of(vectors + [offered]) > rank_of(vectors):
            vectors = vectors + [offered]
            choice.append(number)
    if rank_of(vectors) == looks.size:
        return "looks", tuple(choice)
    return "hidden", row_of(evenly_met(vectors, looks.size)[0], looks.size)


def shows_further(looks, offers, value):
    """Whether the value is a right result of further."""
    need_offers(looks, offers)
    need_fitting(looks)
    if not isinstance(value, tuple) or len(value) != 2:
        return False
    seen = sights(looks)
    offered = [sight(looks, beat, place) for beat, place in offers]
    if value[0] == "hidden":
        if not is_row_of(value[1], looks.size) or bits_of(value[1]) == 0:
            return False
        return meets_all_evenly(seen + offered, bits_of(value[1]))
    if value[0] != "looks" or not is_lot(value[1], 0, len(offers) - 1):
        return False
    chosen = [offered[number] for number in value[1]]
    return len(chosen) == looks.size - rank_of(seen) and rank_of(seen + chosen) == looks.size
