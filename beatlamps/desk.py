"""A desk, at which a yard is worked by lines."""

from beatlamps.deeds import deed_in, do_on
from beatlamps.errors import BadLine
from beatlamps.gardens import ahead, lost
from beatlamps.journals import read_journal
from beatlamps.loops import period, tail
from beatlamps.places import tells_all
from beatlamps.words import numbers_behind


def told_of_yard(yard, word):
    """The answer to a line that is this word alone, None if there is none."""
    if word == "row":
        return yard.row
    if word == "clock":
        return str(yard.clock)
    if word == "lost":
        return str(lost(yard.kind, yard.rule, len(yard.row)))
    if word == "tail":
        return str(tail(yard.kind, yard.rule, yard.row))
    if word == "period":
        return str(period(yard.kind, yard.rule, yard.row))
    if word == "ahead":
        return ahead(yard.kind, yard.rule, yard.row)[0]
    return None


def told_of_numbers(yard, line):
    """The answer to a line of a word and integers, None if there is none."""
    lamp_told = numbers_behind("lamp", line)
    if lamp_told is not None and len(lamp_told) == 2:
        return "on" if yard.lamp(lamp_told[0], lamp_told[1]) else "off"
    places = numbers_behind("tells", line)
    if places is not None and len(places) > 0:
        return tells_all(yard.kind, yard.rule, len(yard.row), places)[0]
    return None


class Desk:
    """A yard, read from a journal, that is told lines and answers them."""

    def __init__(self, text):
        self.yard = read_journal(text)

    def say(self, line):
        """The answer to this line."""
        if not isinstance(line, str) or "\n" in line:
            raise BadLine(line)
        deed = deed_in(line)
        if deed is not None:
            do_on(self.yard, deed[0], deed[1])
            return "ok"
        if line == "undo":
            self.yard.undo()
            return "ok"
        if line == "redo":
            self.yard.redo()
            return "ok"
        answer = told_of_yard(self.yard, line)
        if answer is None:
            answer = told_of_numbers(self.yard, line)
        if answer is None:
            raise BadLine(line)
        return answer
