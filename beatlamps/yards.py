"""A yard: a row of lamps in which lamps are pressed, beats go by, and rules are changed."""

from beatlamps.checks import ENDLESS, is_between, need_beats_within, need_even, need_place, need_places, need_rule
from beatlamps.checks import need_with_row
from beatlamps.comings import source
from beatlamps.errors import Full, Loses, NoTrial, NothingToRedo, NothingToUndo, TooLong
from beatlamps.gardens import lost
from beatlamps.looks import GREATEST_SEEN, MOST_LOOKS, Looks
from beatlamps.rings import bits_of, row_of
from beatlamps.rows import after
from beatlamps.words import line_of


def with_turned(row, places):
    """The row in which the lamps at these places are turned, each as often as it comes."""
    bits = bits_of(row)
    for place in places:
        bits ^= 1 << place
    return row_of(bits, len(row))


def cross_at(kind, place, size):
    """The place and the two beside it, as often as they come; behind a wall there is none."""
    if kind == "ring":
        return (place - 1) % size, place, (place + 1) % size
    return tuple([at for at in (place - 1, place, place + 1) if 0 <= at < size])


class Trial:
    """A block behind which the yard is as it was when it was entered, unless it is kept."""

    def __init__(self, yard):
        self.yard = yard
        self.outer = None
        self.kept = None
        self.rule = yard.rule
        self.row = yard.row
        self.clock = yard.clock
        self.done = yard.done
        self.deeds = []
        self.undone = []

    def __enter__(self):
        self.outer = self.yard.block
        self.rule = self.yard.rule
        self.row = self.yard.row
        self.clock = self.yard.clock
        self.done = self.yard.done
        self.deeds = list(self.yard.deeds)
        self.undone = list(self.yard.undone)
        self.yard.block = self
        return self.yard

    def __exit__(self, kind, value, trace):
        if kind is not None or self.kept is None:
            self.yard.rule = self.rule
            self.yard.row = self.row
            self.yard.clock = self.clock
            self.yard.done = self.done
            self.yard.deeds = self.deeds
            self.yard.undone = self.undone
        self.yard.block = self.outer


class Yard:
    """A row of lamps that is turned by a rule, and all that was done with it."""

    def __init__(self, kind, rule, row):
        need_with_row(kind, rule, row)
        self.kind = kind
        self.rule = rule
        self.row = row
        self.first = row
        self.first_rule = rule
        self.clock = 0
        self.done = 0
        # Of each deed its line in journals, and the rule, the row and the clock behind it.
        self.deeds = []
        self.undone = []
        self.block = None

    def __len__(self):
        return len(self.row)

    def __contains__(self, value):
        return is_between(value, 0, len(self.row) - 1) and self.row[value] == "1"

    def __eq__(self, other):
        return (isinstance(other, Yard) and self.kind == other.kind and self.first_rule == other.first_rule
                and self.first == other.first and self.deeds == other.deeds)

    def take_over(self):
        """Sets rule, row, clock and done as they are behind the deeds that stand."""
        self.done = len(self.deeds)
        if self.deeds:
            _, self.rule, self.row, self.clock = self.deeds[-1]
        else:
            self.rule, self.row, self.clock = self.first_rule, self.first, 0

    def do_deed(self, line, rule, row, clock):
        """Lets a deed stand behind the others."""
        self.deeds.append((line, rule, row, clock))
        self.undone = []
        self.take_over()

    def beat(self, many):
        """So many beats go by."""
        need_beats_within(many, 1, ENDLESS)
        row = after(self.kind, self.rule, self.row, many)
        self.do_deed(line_of("beat", (many,)), self.rule, row, self.clock + many)

    def back(self, many):
        """So many beats are taken back."""
        need_beats_within(many, 1, ENDLESS)
        losing_now = lost(self.kind, self.rule, len(self.row))
        if losing_now:
            raise Loses(losing_now)
        _, row = source(self.kind, self.rule, self.row, many)
        self.do_deed(line_of("back", (many,)), self.rule, row, self.clock - many)

    def press(self, place):
        """The lamp at this place is turned."""
        need_place(place, len(self.row))
        self.do_deed(line_of("press", (place,)), self.rule, with_turned(self.row, (place,)), self.clock)

    def cross(self, place):
        """The lamp at this place and those beside it are turned."""
        need_place(place, len(self.row))
        row = with_turned(self.row, cross_at(self.kind, place, len(self.row)))
        self.do_deed(line_of("cross", (place,)), self.rule, row, self.clock)

    def change(self, rule):
        """This is the rule from now on."""
        need_rule(rule)
        if self.kind == "walls":
            need_even(rule)
        self.do_deed(line_of("change", rule), rule, self.row, self.clock)

    def turn(self):
        """The row is turned on round its ring by one place, or about between its walls."""
        row = self.row[1:] + self.row[:1] if self.kind == "ring" else self.row[::-1]
        self.do_deed("turn", self.rule, row, self.clock)

    def lamp(self, place, beats):
        """Whether the lamp at this place will be on behind so many beats."""
        need_place(place, len(self.row))
        return after(self.kind, self.rule, self.row, beats)[place] == "1"

    def looked(self, places, beats):
        """The Looks at these places, now and behind each number of beats below this one."""
        need_places(places, len(self.row))
        if len(self.row) > GREATEST_SEEN:
            raise TooLong(GREATEST_SEEN)
        need_beats_within(beats, 1, MOST_LOOKS)
        if len(places) * beats > MOST_LOOKS:
            raise Full(MOST_LOOKS)
        lines = ["kind " + self.kind, line_of("size", (len(self.row),)), line_of("rule", self.rule)]
        for beat in range(beats):
            row = after(self.kind, self.rule, self.row, beat)
            lines = lines + [line_of("look", (beat, place, int(row[place]))) for place in places]
        return Looks("\n".join(lines))

    def undo(self):
        """Takes the last deed back that stands."""
        if self.done == 0:
            raise NothingToUndo(None)
        self.undone.append(self.deeds.pop())
        self.take_over()

    def redo(self):
        """Does the deed again that was taken back last."""
        if len(self.undone) == 0:
            raise NothingToRedo(None)
        self.deeds.append(self.undone.pop())
        self.take_over()

    def trial(self):
        """A block behind which the yard is as it was, unless it is kept."""
        return Trial(self)

    def keep(self):
        """Keeps what is done in the innermost block."""
        if self.block is None:
            raise NoTrial(None)
        self.block.kept = True

    def tried(self, look, *, keep=False):
        """What look returns, called with the yard within a block."""
        with self.trial() as held:
            result = look(held)
            if keep is True:
                self.keep()
        return result

    def copy(self):
        """An independent yard, alike in all things, outside of all blocks."""
        other = Yard(self.kind, self.first_rule, self.first)
        other.deeds = list(self.deeds)
        other.undone = list(self.undone)
        other.take_over()
        return other
