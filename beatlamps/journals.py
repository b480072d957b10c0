"""Journals: what was done on a yard, as a text, and a yard on which what a text tells was done."""

from beatlamps.checks import is_row
from beatlamps.deeds import deed_in, do_on
from beatlamps.errors import BadJournal, LampError
from beatlamps.words import kind_in, line_at, line_of, rule_in, word_behind
from beatlamps.yards import Yard

LINES_BEFORE_DEEDS = 3


def journal(yard):
    """The text of all that stands on the yard."""
    lines = ["kind " + yard.kind, line_of("rule", yard.first_rule), "row " + yard.first]
    return "\n".join(lines + [deed[0] for deed in yard.deeds])


def yard_begun(lines):
    """The yard of the first three lines; BadJournal, if one of them cannot stand there."""
    kind = kind_in(lines[0])
    if kind is None:
        raise BadJournal(1)
    rule = rule_in(kind, line_at(lines, 1))
    if rule is None:
        raise BadJournal(2)
    row = word_behind("row", line_at(lines, 2))
    if not is_row(row):
        raise BadJournal(3)
    return Yard(kind, rule, row)


def is_done(yard, line):
    """Does what the line tells on the yard; whether it tells a deed that is not refused."""
    deed = deed_in(line)
    if deed is None:
        return False
    try:
        do_on(yard, deed[0], deed[1])
    except LampError:
        return False
    return True


def read_journal(text):
    """A yard on which was done what the text tells."""
    if not isinstance(text, str):
        raise BadJournal(0)
    lines = text.split("\n")
    yard = yard_begun(lines)
    for at, line in enumerate(lines[LINES_BEFORE_DEEDS:]):
        if not is_done(yard, line):
            raise BadJournal(LINES_BEFORE_DEEDS + at + 1)
    return yard
