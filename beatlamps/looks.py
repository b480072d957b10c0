"""Looks at some lamps, at some beats, of a row that nobody knows."""

from beatlamps.checks import ENDLESS, is_between, is_lot, is_row_of
from beatlamps.errors import BadLook, BadLooks, Full, Held, NoLook, Quarrel
from beatlamps.rings import bits_of, row_of
from beatlamps.sights import fits_told, quarrel_in, sights, start_in, told_by
from beatlamps.spaces import rank_of
from beatlamps.words import kind_in, line_at, line_of, numbers_behind, rule_in

GREATEST_SEEN = 16
MOST_LOOKS = 12
LINES_AHEAD = 3


def could_be_seen(beat, place, size):
    """Whether the lamp at this place can be looked at behind so many beats."""
    return is_between(beat, 0, ENDLESS) and is_between(place, 0, size - 1)


def could_stand(value, size):
    """Whether it is a (beat, place, value) that could stand in a line."""
    if not isinstance(value, tuple) or len(value) != 3:
        return False
    return could_be_seen(value[0], value[1], size) and is_between(value[2], 0, 1)


def holding(seen, beat, place):
    """The number of the look of this beat and place, None if there is none."""
    for number, look in enumerate(seen):
        if look[0] == beat and look[1] == place:
            return number
    return None


def size_in(line):
    """The size that the line tells, None if it tells none."""
    numbers = numbers_behind("size", line)
    if numbers is None or len(numbers) != 1 or not is_between(numbers[0], 1, GREATEST_SEEN):
        return None
    return numbers[0]


def seen_in(lines, size):
    """The tuple of all looks that the lines tell; BadLooks, if one of them cannot stand there."""
    seen = []
    for at, line in enumerate(lines):
        look = numbers_behind("look", line)
        if at == MOST_LOOKS or not could_stand(look, size) or holding(seen, look[0], look[1]) is not None:
            raise BadLooks(LINES_AHEAD + at + 1)
        seen = seen + [look]
    return tuple(seen)


class Looks:
    """Looks at a row of which kind, size and rule are known."""

    def __init__(self, text):
        if not isinstance(text, str):
            raise BadLooks(0)
        lines = text.split("\n")
        kind = kind_in(lines[0])
        if kind is None:
            raise BadLooks(1)
        size = size_in(line_at(lines, 1))
        if size is None:
            raise BadLooks(2)
        rule = rule_in(kind, line_at(lines, 2))
        if rule is None:
            raise BadLooks(3)
        self.text = text
        self.kind = kind
        self.size = size
        self.rule = rule
        self.seen = seen_in(lines[LINES_AHEAD:], size)

    def __len__(self):
        return len(self.seen)

    def __contains__(self, value):
        return could_stand(value, self.size) and value in self.seen

    def __eq__(self, other):
        return isinstance(other, Looks) and self.text == other.text

    def with_look(self, look):
        """The Looks in which this one stands behind the others."""
        if not could_stand(look, self.size):
            raise BadLook(look)
        number = holding(self.seen, look[0], look[1])
        if number is not None:
            raise Held(number)
        if len(self.seen) == MOST_LOOKS:
            raise Full(MOST_LOOKS)
        return Looks(self.text + "\n" + line_of("look", look))

    def without(self, number):
        """The Looks in which the one of this number is left out."""
        if not is_between(number, 0, len(self.seen) - 1):
            raise NoLook(number)
        lines = self.text.split("\n")
        del lines[LINES_AHEAD + number]
        return Looks("\n".join(lines))


def is_quarrel(value, told):
    """Whether it is a lot of numbers of looks that quarrel."""
    if not is_lot(value, 0, len(told) - 1):
        return False
    total = 0
    for number in value:
        total ^= told[number]
    return total == 1


def fits(looks):
    """("start", row) with a start that fits, or ("quarrel", numbers) of looks that no start fits."""
    told = told_by(looks)
    numbers = quarrel_in(told)
    if numbers is not None:
        return "quarrel", numbers
    return "start", row_of(start_in(told), looks.size)


def shows_fits(looks, value):
    """Whether the value is a right result of fits."""
    if not isinstance(value, tuple) or len(value) != 2:
        return False
    told = told_by(looks)
    if value[0] == "start":
        return is_row_of(value[1], looks.size) and fits_told(told, bits_of(value[1]))
    return value[0] == "quarrel" and is_quarrel(value[1], told)


def need_fitting(looks):
    """Quarrel, with the numbers of looks that quarrel, if no start fits."""
    numbers = quarrel_in(told_by(looks))
    if numbers is not None:
        raise Quarrel(numbers)


def open_starts(looks):
    """The number for which 2 ** open_starts starts fit."""
    need_fitting(looks)
    return looks.size - rank_of(sights(looks))
