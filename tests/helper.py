"""Slow, plain computations that know nothing of the package, and values of all kinds that are handed in."""

import re
from itertools import combinations, product

from beatlamps.errors import BadRule, LampError
from beatlamps.looks import Looks
from beatlamps.yards import Yard


def deep(many):
    """A value nested so deep."""
    value = 1
    for at in range(many):
        value = (value,) if at % 3 == 0 else [value] if at % 3 == 1 else {"a": value}
    return value


STRANGE = [None, True, False, {}, {0: 1}, {"ring": "110"}, [], [0, 1], ["110"], (None,), (True,), (False,), ((),),
           (0, (1,)), ("0",), deep(30), deep(29), LampError((0, 1)), BadRule("1"),
           Looks("kind ring\nsize 1\nrule 0\nlook 0 0 1"), Yard("ring", (0,), "1"), -1, 10 ** 39, "", "x", "0 1", "\n"]
NO_INTEGERS = [value for value in STRANGE if value is True or value is False or not isinstance(value, int)]
NO_INTEGERS = NO_INTEGERS + ["1", "0", (1,), [1], (0,)]
NO_LOTS = STRANGE + [0, 1, 2, "0", "01", "(0, 1)", (1, 0), (0, 0), (0, 1, 1), (0, 2, 1), (0, True), (False, 1),
                     (0, "1"), (0, None), ((0, 1),), ((0,), (1,)), [0], [[0]], (0, [1])]
NO_POLYNOMIALS = NO_LOTS + [(-1,), (-1, 0), (401,), (0, 401), (10 ** 30,)]
NO_RULES = NO_LOTS + [(), (-7,), (7,), (-7, 0), (0, 7), (-6, 0, 7), (1, -1), (10 ** 30,)]
NO_KINDS = STRANGE + [0, 1, "Ring", "RING", "wall", "rings", "ring ", " walls", "tube", "ringwalls", ("ring",),
                      ["walls"], (), (0,)]
NO_ROWS = STRANGE + [0, 1, 110, "2", "012", "1 0", "01\n", "l0", "-1", "1" * 25, "0" * 25, "1" * 3000, ("1", "0"),
                     ["1", "0"], (), (0, 1), ("110",)]
NO_BEATS = NO_INTEGERS + [-1, -10 ** 30, 10 ** 30 + 1, 10 ** 39]
NO_SIZES_30 = NO_INTEGERS + [0, -1, 10 ** 30 + 1]
NO_ROW_SIZES = NO_INTEGERS + [0, -1, 25, 10 ** 30]
NO_FLOOR_SIZES = NO_INTEGERS + [0, -1, 9, 24, 10 ** 30]
NO_NUMBERS = NO_INTEGERS + [0, -1, 13, 10 ** 30]
NO_SIDES = STRANGE + [0, 1, "Walls", "WALLS", "wall", "rings", "tubes", "tube ", " ring", "wallstube", "torus", ("ring",),
                      ["walls"], (), (0,)]
NO_MIDDLES = [value for value in STRANGE if value is not True and value is not False]
NO_MIDDLES = NO_MIDDLES + [0, 1, 2, "True", "False", "1", ("True",), [True], [False], (True, False)]
NO_LARGE_FLOORS = [value for value in STRANGE if value != ("0",)]
NO_LARGE_FLOORS = NO_LARGE_FLOORS + ["1", "11", 1, 0, (), ("",), ("", ""), ("1", ""), ("1", "10"), ("10", "1"), ("2",), ("1 ",),
                             ["1"], ["10", "11"], (["1"],), (("1",),), ("1", None), ("1", 1), (1, 1), ("1", True),
                             {"1": "1"}, ("10", "1\n"), ("10", "11", "1"), ("1" * 25,), ("1",) * 25, ("1" * 3000,)]
NO_FLOORS = NO_LARGE_FLOORS + [("1" * 9,), ("1",) * 9, ("1" * 24,), ("0" * 9,) * 8, ("0" * 8,) * 9, ("1",) * 24]
UNEVEN = [(0, 1), (1,), (-1,), (-1, 0), (-6, -1, 1), (-6, 5), (-6, 0, 1, 6)]

EVEN_RULES = []
for many in range(1, 8):
    for some in combinations(range(7), many):
        EVEN_RULES.append(tuple(sorted({sign * offset for offset in some for sign in (-1, 1)})))
RULES = [(-1, 1), (0, 1), (-1, 0, 1), (0,), (1,), (-6,), (6,), (-6, 6), (-6, 0, 6), (-5, 2), (-6, -3, 1, 5), (-2, 0, 3),
         (0, 1, 2, 3), tuple(range(-6, 7)), tuple(range(-6, 6)), (-4, -2, 2, 4), (-3, 0, 3), (0, 6), (2, 4), (-6, -5)]
SOME_EVEN = [rule for rule in RULES if tuple(sorted(-offset for offset in rule)) == rule] + [(-6, -1, 1, 6)]


def odd_ones(items):
    """The ascending tuple of the items that come an odd number of times."""
    left = set()
    for item in items:
        left ^= {item}
    return tuple(sorted(left))


def slow_plus(one, other):
    return odd_ones(one + other)


def slow_times(one, other):
    return odd_ones([first + second for first in one for second in other])


def slow_rest(one, other):
    while one and one[-1] >= other[-1]:
        one = slow_plus(one, slow_times((one[-1] - other[-1],), other))
    return one


def slow_power(one, beats, modulo):
    result = slow_rest((0,), modulo)
    for _ in range(beats):
        result = slow_rest(slow_times(result, one), modulo)
    return result


def all_polynomials(degree):
    """All polynomials up to this degree, nought first, those of lesser degree ahead."""
    return [odd_ones([at for at in range(degree + 1) if bits >> at & 1]) for bits in range(2 ** (degree + 1))]


def degree(one):
    return one[-1] if one else -1


def slow_common(one, other):
    """The one of greatest degree that divides both, by trying all."""
    if one == other == ():
        return ()
    best = (0,)
    for part in all_polynomials(max(degree(one), degree(other)))[1:]:
        if slow_rest(one, part) == slow_rest(other, part) == () and degree(part) > degree(best):
            best = part
    return best


def slow_is_plain(one):
    if degree(one) < 1:
        return False
    return all(slow_rest(one, part) for part in all_polynomials(degree(one) - 1) if degree(part) >= 1)


def slow_factors(one):
    """The factors by trying all polynomials of no greater degree."""
    found = []
    for part in all_polynomials(degree(one)):
        if slow_is_plain(part):
            times, together = 0, part
            while slow_rest(one, together) == ():
                times, together = times + 1, slow_times(together, part)
            if times:
                found.append((part, times))
    return tuple(sorted(found))


def slow_measure(one):
    """By going on from x to x until 1 comes."""
    if one == (0,):
        return 1
    bits = sum(1 << at for at in one)
    going, many = 1, 0
    while True:
        going, many = going << 1, many + 1
        if going >> one[-1]:
            going ^= bits
        if going == 1:
            return many


def all_rows(size):
    return ["".join(signs) for signs in product("01", repeat=size)]


def slow_unfolded(row):
    return "0" + row + "0" + row[::-1]


def slow_ring_beat(rule, row, scale=1):
    """A beat lamp by lamp; the offsets so many times as far."""
    size = len(row)
    return "".join(str(sum(row[(at + scale * offset) % size] == "1" for offset in rule) % 2) for at in range(size))


def slow_beat(kind, rule, row):
    if kind == "ring":
        return slow_ring_beat(rule, row)
    return slow_ring_beat(rule, slow_unfolded(row))[1:len(row) + 1]


def slow_after(kind, rule, row, beats):
    for _ in range(beats):
        row = slow_beat(kind, rule, row)
    return row


def slow_long_after(kind, rule, row, beats):
    """Many beats: 2 ** k of them are one beat by offsets 2 ** k times as far, as all squares modulo two are."""
    whole = row if kind == "ring" else slow_unfolded(row)
    for at in range(beats.bit_length()):
        if beats >> at & 1:
            whole = slow_ring_beat(rule, whole, 2 ** at)
    return whole if kind == "ring" else whole[1:len(row) + 1]


def slow_orbit(kind, rule, row):
    """(rows, tail): all rows that come of it until one comes again, and how many are ahead of that one."""
    rows = []
    while row not in rows:
        rows.append(row)
        row = slow_beat(kind, rule, row)
    return rows, rows.index(row)


def slow_sum(one, other):
    return "".join(str(int(a != b)) for a, b in zip(one, other))


def meets_oddly(one, other):
    return sum(a == b == "1" for a, b in zip(one, other)) % 2 == 1


def all_subset_sums(rows, size):
    """The list of the sums of all some or none of these rows."""
    sums = ["0" * size]
    for row in rows:
        sums = sums + [slow_sum(row, other) for other in sums]
    return sums


def independent(rows, size):
    """Whether no sum of one or more of these rows is dark."""
    return all_subset_sums(rows, size).count("0" * size) == 1


def kinds_and_rules(rules=RULES, even=SOME_EVEN):
    return [("ring", rule) for rule in rules] + [("walls", rule) for rule in even]


def slow_neighbours(sides, high, wide, at, place):
    """The neighbours of this place, as often as each of them comes."""
    found = []
    for row, column in ((at - 1, place), (at + 1, place), (at, place - 1), (at, place + 1)):
        if sides == "ring":
            row %= high
        if sides != "walls":
            column %= wide
        if 0 <= row < high and 0 <= column < wide:
            found.append((row, column))
    return found


def slow_pressed(sides, middle, presses):
    """Lamp by lamp: what these presses make of the dark floor."""
    high, wide = len(presses), len(presses[0])
    on = [[0] * wide for _ in range(high)]
    for at, row in enumerate(presses):
        for place, sign in enumerate(row):
            if sign == "1":
                for there, column in slow_neighbours(sides, high, wide, at, place) + [(at, place)] * middle:
                    on[there][column] ^= 1
    return tuple("".join(map(str, row)) for row in on)


def all_floors(high, wide):
    return list(product(all_rows(wide), repeat=high))


def dark_floor(high, wide):
    return ("0" * wide,) * high


def floor_sum(one, other):
    return tuple(slow_sum(row, there) for row, there in zip(one, other))


def floors_meet_oddly(one, other):
    return meets_oddly("".join(one), "".join(other))


def slow_rank(rows):
    """How many of the rows are no sums of ones ahead of them, by striking out."""
    pivots = []
    for row in rows:
        for pivot in pivots:
            if row[pivot.index("1")] == "1":
                row = slow_sum(row, pivot)
        if "1" in row:
            pivots.append(row)
    return len(pivots)


def single_floors(high, wide):
    """All floors with one lamp on."""
    for at in range(high * wide):
        text = "0" * at + "1" + "0" * (high * wide - at - 1)
        yield tuple(text[start:start + wide] for start in range(0, high * wide, wide))


def euclid(one, other):
    """The greatest common divisor by parting again and again."""
    while other:
        one, other = other, slow_rest(one, other)
    return one


def slow_wall_polynomial(size, step=(1,)):
    """Row by row; step stands in the place of x."""
    less, one = (), (0,)
    for _ in range(size):
        less, one = one, slow_plus(slow_times(step, one), less)
    return one


def slow_wall_rests(one, many):
    """The rests of the wall polynomials of sizes from 0 on by this one, so many, as integers."""
    bits, length = sum(1 << at for at in one), one[-1] + 1
    rests, less, rest = [], 0, 1 if length > 1 else 0
    for _ in range(many):
        rests.append(rest)
        less, rest = rest, rest << 1 ^ less
        if rest.bit_length() >= length:
            rest ^= bits
    return rests


def slow_entry(one):
    """The least number, from 2 on, such that it divides the wall polynomial of one less; not of 1, which divides all."""
    many = 64
    while 0 not in slow_wall_rests(one, many):
        many *= 2
    return slow_wall_rests(one, many).index(0) + 1


def powers_of_bits(bits):
    return tuple(at for at in range(bits.bit_length()) if bits >> at & 1)


def often(factor, one):
    """How often the factor divides it."""
    many = 0
    while one and slow_rest(one, factor) == ():
        one = slow_quotient(one, factor)
        many += 1
    return many


def slow_quotient(one, other):
    """What times other makes one, which it divides."""
    quotient = ()
    while one:
        step = one[-1] - other[-1]
        quotient = (step,) + quotient
        one = slow_plus(one, slow_times((step,), other))
    return quotient


def caught(function, *values, **named):
    """The error that the call raises, or None."""
    try:
        function(*values, **named)
    except LampError as error:
        return error
    return None


def check_refused(case, function, values, error, told):
    """Whether the call is refused by just this error and value, by position and by name."""
    for raised in (caught(function, *values.values()), caught(function, **values)):
        case.assertIs(raised.__class__, error, (function.__name__, values))
        case.assertIs(raised.value, told) if not isinstance(told, int) else case.assertEqual(raised.value, told)
        case.assertIs(raised.value.__class__, told.__class__)


def check_refusals(case, function, good, wrongs):
    """All refusals of a function: good are right values by parameter, in sequence; wrongs are (parameter, error,
    values), or (parameter, error, values, told), in the sequence in which they apply."""
    function(*good.values())
    function(**good)
    for at, (name, error, values, *told) in enumerate(wrongs):
        for value in values:
            check_refused(case, function, {**good, name: value}, error, told[0] if told else value)
        value = values[at % len(values)]
        late = {}
        for later, _, others, *_ in wrongs[at + 1:]:
            if later != name:
                for other in others[:3] + others[-3:]:
                    both = {**good, name: value, later: other}
                    check_refused(case, function, both, error, told[0] if told else value)
                late[later] = others[0]
        everything = {**good, **late, name: value}
        check_refused(case, function, everything, error, told[0] if told else value)


def is_lot_below(value, bound):
    """Whether it is an ascending tuple of unlike integers from 0 on, all of them below the bound."""
    if not isinstance(value, tuple) or not all(item.__class__ is int and 0 <= item < bound for item in value):
        return False
    return value == tuple(sorted(set(value)))


def is_text_row(value, size):
    return isinstance(value, str) and re.fullmatch(f"[01]{{{size}}}", value) is not None


def bent(value):
    """Values that are alike, but bent in one place."""
    if isinstance(value, tuple):
        yield from [list(value), value + (0,), value + value[-1:], (value,), value[::-1], dict(enumerate(value)), ()]
        for at in range(len(value)):
            yield value[:at] + value[at + 1:]
            for other in bent(value[at]):
                yield value[:at] + (other,) + value[at + 1:]
    elif isinstance(value, bool):
        yield from [int(value), not value, None]
    elif isinstance(value, int):
        yield from [value + 1, value - 1, -value, str(value), (value,), None]
        if value in (0, 1):
            yield bool(value)
    elif isinstance(value, str):
        yield from [value + "0", value[:-1], value.upper() + " ", (value,), list(value), value[::-1], 0, None]
        for at, sign in enumerate(value[:6]):
            if sign in "01":
                yield value[:at] + str(1 - int(sign)) + value[at + 1:]


WORDS = ["start", "quarrel", "sure", "open", "looks", "hidden", "none", "surely", "all", "unseen", "presses", "never",
         "beats", "barred", "picture"]


def check_shows(case, shows, arguments, right, values):
    """Whether shows tells of all these values, of ones bent in one place, and of strange ones what right tells; and
    takes one of these values at least."""
    taken = 0
    for value in values:
        for other in [value] + list(bent(value)):
            told = shows(*arguments, other)
            case.assertIs(told, right(*arguments, other), (shows.__name__, arguments, other))
            taken += told
    for value in STRANGE + [(word, strange) for word in WORDS for strange in STRANGE[::5]]:
        case.assertIs(shows(*arguments, value), right(*arguments, value), (shows.__name__, arguments, value))
    case.assertGreater(taken, 0)


def slow_picture_beat(rule, picture):
    """A lamp that is on lights those at its place less each offset."""
    return odd_ones([place - offset for place in picture for offset in rule])


def slow_pictures(rule, picture, beats):
    """The pictures behind each number of beats up to this one."""
    found = [picture]
    for _ in range(beats):
        found.append(slow_picture_beat(rule, found[-1]))
    return found


def slow_far_picture(rule, picture, beats):
    """Behind many beats, few of whose binary figures are 1: 2 ** k of them are one by offsets 2 ** k times as far."""
    for at in range(beats.bit_length()):
        if beats >> at & 1:
            picture = slow_picture_beat(tuple(offset * 2 ** at for offset in rule), picture)
    return picture


def slow_far_after(kind, rule, row, beats):
    """Many beats, by going on to where the row comes again."""
    rows, tail = slow_orbit(kind, rule, row)
    if beats >= len(rows):
        beats = tail + (beats - tail) % (len(rows) - tail)
    return rows[beats]


FUTURES = {}


def slow_on(kind, rule, size, beat, place):
    """For each start of this size, in the sequence of all_rows, whether the lamp is on behind so many beats."""
    key = (kind, rule, size, beat, place)
    if key not in FUTURES:
        FUTURES[key] = [slow_far_after(kind, rule, row, beat)[place] == "1" for row in all_rows(size)]
    return FUTURES[key]


NO_PICTURES = [value for value in NO_LOTS if value != (1, 0)] + [(1, 0), (10 ** 30 + 1,), (-10 ** 30 - 1,), (-10 ** 30 - 1, 0),
                (0, 10 ** 30 + 1), tuple(range(251)), tuple(range(-126, 125)), tuple(range(3000)), (0, 10 ** 39)]


def looks_text(kind, rule, size, seen):
    lines = [f"kind {kind}", f"size {size}", "rule " + " ".join(map(str, rule))]
    return "\n".join(lines + ["look " + " ".join(map(str, look)) for look in seen])


def slow_seen(looks):
    """For each look whether the lamp is on, start by start, and whether it was seen on."""
    return [(slow_on(looks.kind, looks.rule, looks.size, beat, place), seen) for beat, place, seen in looks.seen]


def slow_wrong(looks):
    """For each start the tuple of the numbers of the looks that it does not fit."""
    rows = all_rows(looks.size)
    told = slow_seen(looks)
    return {row: tuple(number for number, (on, seen) in enumerate(told) if on[at] != (seen == 1))
            for at, row in enumerate(rows)}


STARTS = {}


def slow_starts(looks):
    """All starts that fit."""
    if looks.text not in STARTS:
        STARTS[looks.text] = [row for row, wrong in slow_wrong(looks).items() if wrong == ()]
    return STARTS[looks.text]


def right_quarrel(looks, numbers):
    """Whether it is a lot of looks that have, of whatever start, an even number on, while an odd number was seen on."""
    if not is_lot_below(numbers, len(looks.seen)):
        return False
    told = slow_seen(looks)
    for at in range(2 ** looks.size):
        if sum(told[number][0][at] for number in numbers) % 2:
            return False
    return sum(told[number][1] for number in numbers) % 2 == 1


def some_looks(chance, many, most=12, sizes=(1, 2, 3, 4, 5), right=0):
    """So many Looks of all kinds; of some of them so many parts in ten are as some start would have them."""
    found = []
    while len(found) < many:
        size = chance.choice(sizes)
        kind, rule = chance.choice(kinds_and_rules())
        start = chance.choice(all_rows(size))
        seen, held = [], set()
        for _ in range(chance.randrange(most + 1)):
            beat, place = chance.choice([0, 1, 2, 3, 5, 8, 31, 10 ** 30]), chance.randrange(size)
            value = chance.randrange(2)
            if chance.randrange(10) < right:
                value = int(slow_far_after(kind, rule, start, beat)[place])
            if (beat, place) not in held:
                held.add((beat, place))
                seen.append((beat, place, value))
        found.append(Looks(looks_text(kind, rule, size, seen)))
    return found


NO_PLACES_OF_4 = [value for value in NO_INTEGERS] + [-1, 4, 5, 10 ** 30]
TEXT = "kind walls\nsize 4\nrule -1 1\nlook 0 0 1\nlook 3 2 0\nlook 3 0 1"
QUARREL = "kind ring\nsize 4\nrule 0\nlook 0 0 1\nlook 3 2 0\nlook 3 0 0"


def slow_orbit_seen(kind, rule, row, places):
    """What is seen at these places, behind each number of beats until the row comes again."""
    return [tuple(other[place] for place in places) for other in slow_orbit(kind, rule, row)[0]]


ROOMS = {}


def slow_unseen(kind, rule, size, places):
    """All rows, but the dark one, whose lamps at these places are always off."""
    key = (kind, rule, size, places)
    if key not in ROOMS:
        ROOMS[key] = [row for row in all_rows(size)[1:] if not
                      any("1" in seen for seen in slow_orbit_seen(kind, rule, row, places))]
    return ROOMS[key]


def all_places(size):
    return [lot for number in range(1, size + 1) for lot in combinations(range(size), number)]


def slow_reached(kind, rule, rows, places):
    """All rows that come of these by a beat, and presses at these places."""
    masks = ["0" * len(rows[0])]
    for place in places:
        masks += [mask[:place] + "1" + mask[place + 1:] for mask in masks]
    return sorted({slow_sum(slow_beat(kind, rule, row), mask) for row in rows for mask in masks})


NO_LOTS_OF_PLACES = NO_LOTS[:]
for value in [(0, 1), (0, 2), (0,), (1,)]:
    NO_LOTS_OF_PLACES = [other for other in NO_LOTS_OF_PLACES if repr(other) != repr(value)]
NO_PLACES_IN_4 = NO_LOTS_OF_PLACES + [(), (-1,), (-1, 0), (4,), (0, 4), (0, 1, 2, 3, 4), (10 ** 30,), (0, 2, 1), (3, 3)]


BACKS = {}


def slow_back(kind, rule, row, many):
    """(lost, row): what is lost, and if nothing is, the only row that becomes this one by so many beats."""
    key = (kind, rule, len(row))
    if key not in BACKS:
        BACKS[key] = [other for other in all_rows(len(row)) if "1" not in slow_beat(kind, rule, other)]
    if len(BACKS[key]) > 1:
        return len(BACKS[key]).bit_length() - 1, None
    found = [other for other in all_rows(len(row)) if slow_far_after(kind, rule, other, many) == row]
    assert len(found) == 1
    return 0, found[0]


def slow_turned(row, places):
    for place in places:
        row = row[:place] + str(1 - int(row[place])) + row[place + 1:]
    return row


def slow_deed(kind, rule, row, clock, word, value):
    """(rule, row, clock) behind this deed, or (name of the error, what it tells)."""
    size = len(row)
    is_integer = value.__class__ is int
    if word in ("beat", "back"):
        if not is_integer or not 1 <= value <= 10 ** 30:
            return "BadBeats", value
        if word == "beat":
            return rule, slow_far_after(kind, rule, row, value), clock + value
        lost, other = slow_back(kind, rule, row, value)
        return ("Loses", lost) if lost else (rule, other, clock - value)
    if word in ("press", "cross"):
        if not is_integer or not 0 <= value < size:
            return "BadPlace", value
        places = [value] if word == "press" else [value - 1, value, value + 1]
        if kind == "walls":
            places = [place for place in places if 0 <= place < size]
        return rule, slow_turned(row, [place % size for place in places]), clock
    if word == "change":
        if not isinstance(value, tuple) or value == () or not all(one.__class__ is int and -6 <= one <= 6 for one in value):
            return "BadRule", value
        if value != tuple(sorted(set(value))):
            return "BadRule", value
        if kind == "walls" and tuple(sorted(-offset for offset in value)) != value:
            return "NotEven", value
        return value, row, clock
    assert word == "turn"
    return rule, row[1:] + row[0] if kind == "ring" else row[::-1], clock


class SlowYard:
    """A yard that goes through all its deeds whenever it is asked."""

    def __init__(self, kind, rule, row):
        self.kind, self.begun, self.first = kind, rule, row
        self.deeds, self.undone, self.blocks = [], [], []

    def state(self):
        """(rule, row, clock) as they are now."""
        now = self.begun, self.first, 0
        for word, value in self.deeds:
            now = slow_deed(self.kind, *now, word, value)
        return now

    def do(self, word, value):
        """Does it; what it is refused with, as (name, what it tells), or None."""
        if word == "undo":
            if not self.deeds:
                return "NothingToUndo", None
            self.undone.append(self.deeds.pop())
            return None
        if word == "redo":
            if not self.undone:
                return "NothingToRedo", None
            self.deeds.append(self.undone.pop())
            return None
        if word == "keep":
            if not self.blocks:
                return "NoTrial", None
            self.blocks[-1][0] = True
            return None
        told = slow_deed(self.kind, *self.state(), word, value)
        if len(told) == 2:
            return told
        self.deeds.append((word, value))
        self.undone = []
        return None

    def begin(self):
        self.blocks.append([False, list(self.deeds), list(self.undone)])

    def end(self, failed):
        kept, deeds, undone = self.blocks.pop()
        if failed or not kept:
            self.deeds, self.undone = deeds, undone

    def journal(self):
        lines = [f"kind {self.kind}", "rule " + " ".join(map(str, self.begun)), f"row {self.first}"]
        for word, value in self.deeds:
            values = () if word == "turn" else value if isinstance(value, tuple) else (value,)
            lines.append(" ".join([word] + [str(one) for one in values]))
        return "\n".join(lines)


def do_deed_on(yard, word, value):
    """Does it on a yard of the package; what it is refused with, as (name, what it tells), or None."""
    function = getattr(yard, word)
    error = caught(function) if word in ("turn", "undo", "redo", "keep") else caught(function, value)
    return None if error is None else (error.__class__.__name__, error.value)


def some_deed(chance, size):
    """A deed, mostly right; or undo or redo."""
    word = chance.choice("beat beat back back press press cross change turn undo undo redo".split())
    if word in ("beat", "back"):
        return word, chance.choice([1, 1, 2, 3, 7, 10 ** 30, 10 ** 30 - 1, 0, 10 ** 30 + 1, -1, True, "1", None])
    if word in ("press", "cross"):
        return word, chance.choice(list(range(size)) * 3 + [-1, size, True, "0", (0,), None])
    if word == "change":
        return word, chance.choice(RULES + SOME_EVEN + SOME_EVEN + [(), (0, 0), (1, 0), [0], 0, (7,), (True,)])
    return word, None
