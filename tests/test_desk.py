import random
import unittest

from beatlamps.desk import Desk
from beatlamps.errors import BadBeats, BadJournal, BadLine, BadPlace, BadPlaces, BadRule, BadSize, Loses, NotEven
from beatlamps.errors import NothingToRedo, NothingToUndo
from beatlamps.gardens import ahead, lost
from beatlamps.journals import journal, read_journal
from beatlamps.loops import period, tail
from beatlamps.places import tells_all
from beatlamps.yards import Yard
from tests.helper import STRANGE, SlowYard, all_rows, caught, kinds_and_rules, slow_back, slow_beat, slow_far_after
from tests.helper import slow_orbit, slow_unseen, some_deed

TEXT = "kind ring\nrule -1 0 1\nrow 10000\nbeat 1\npress 2"
DEEDS = ["beat 1", "back 2", "press 3", "cross 4", "change -1 1", "change 0", "turn", "undo", "redo"]
WORDS = ["row", "clock", "lost", "tail", "period", "ahead"]


def line_of(word, value):
    values = value if isinstance(value, tuple) else () if value is None else (value,)
    return " ".join([word] + [str(one) for one in values])


class Say(unittest.TestCase):
    def check_answers(self, desk, slow):
        """All lines that ask, against a slow yard."""
        rule, row, clock = slow.state()
        kind, size = slow.kind, len(row)
        rows, before = slow_orbit(kind, rule, row)
        self.assertEqual(desk.say("row"), row)
        self.assertEqual(desk.say("clock"), str(clock))
        self.assertEqual(desk.say("lost"), str(slow_back(kind, rule, "0" * size, 1)[0]))
        self.assertEqual(desk.say("tail"), str(before))
        self.assertEqual(desk.say("period"), str(len(rows) - before))
        comes = row in [slow_beat(kind, rule, other) for other in all_rows(size)]
        self.assertEqual(desk.say("ahead"), "row" if comes else "garden")
        for places in [(0,), tuple(range(size)), (0, size - 1) if size > 1 else (0,)]:
            unseen = slow_unseen(kind, rule, size, places)
            self.assertEqual(desk.say(line_of("tells", places)), "unseen" if unseen else "all")
        for beats in (0, 1, 4, 10 ** 30):
            for place in range(size):
                told = slow_far_after(kind, rule, row, beats)[place]
                self.assertEqual(desk.say(f"lamp {place} {beats}"), "on" if told == "1" else "off")
        self.assertEqual(journal(desk.yard), slow.journal())

    def test_line_by_line(self):
        chance = random.Random(29)
        for kind, rule in kinds_and_rules():
            first = chance.choice(all_rows(chance.randrange(1, 5)))
            slow = SlowYard(kind, rule, first)
            desk = Desk(slow.journal())
            for _ in range(12):
                word, value = some_deed(chance, len(first))
                if value is not None and not isinstance(value, (int, tuple)) or value is True:
                    continue
                if isinstance(value, tuple) and (word != "change" or value == () or True in [one is True for one in value]):
                    continue
                if value is None and word not in ("turn", "undo", "redo"):
                    continue
                expected, error, told = slow.do(word, value), None, []
                try:
                    told = desk.say(line_of(word, value))
                except Exception as raised:
                    error = raised.__class__.__name__, raised.value
                self.assertEqual(error, expected, (slow.journal(), word, value))
                self.assertEqual(told, [] if expected else "ok")
                self.check_answers(desk, slow)

    def test_as_the_functions_tell(self):
        for kind, rule in kinds_and_rules():
            for row in ("1", "01101", "0110111010111000"):
                size = len(row)
                desk = Desk(f"kind {kind}\nrule {' '.join(map(str, rule))}\nrow {row}")
                self.assertEqual([desk.say(word) for word in WORDS],
                                 [row, "0", str(lost(kind, rule, size)), str(tail(kind, rule, row)),
                                  str(period(kind, rule, row)), ahead(kind, rule, row)[0]])
                for places in [(0,), (size - 1,), tuple(range(size))]:
                    self.assertEqual(desk.say(line_of("tells", places)), tells_all(kind, rule, size, places)[0])
                self.assertEqual(desk.yard.done, 0)

    def test_24_lamps(self):
        desk = Desk("kind walls\nrule -1 1\nrow " + "10" * 12)
        self.assertEqual([desk.say(word) for word in WORDS[1:]],
                         ["0", "0", "0", str(period("walls", (-1, 1), "10" * 12)), "row"])
        self.assertEqual(desk.say(f"beat {10 ** 30}"), "ok")
        self.assertEqual(desk.say("clock"), str(10 ** 30))
        self.assertEqual([desk.say(f"back {10 ** 30}"), desk.say("back 1"), desk.say("clock")], ["ok", "ok", "-1"])
        error = caught(desk.say, "tells 0")
        self.assertEqual((error.__class__, error.value), (BadSize, 24))
        self.assertIs(caught(desk.say, "tells 99 -1").__class__, BadSize)

    def test_what_the_yard_refuses(self):
        for text, line, error, told in [
                (TEXT, "beat 0", BadBeats, 0), (TEXT, "beat -5", BadBeats, -5), (TEXT, f"beat {10 ** 30 + 1}", BadBeats, 10 ** 30 + 1),
                (TEXT, "back 0", BadBeats, 0), (TEXT, "press 5", BadPlace, 5), (TEXT, "press -1", BadPlace, -1),
                (TEXT, "cross 5", BadPlace, 5), (TEXT, "change 1 0", BadRule, (1, 0)), (TEXT, "change 0 0", BadRule, (0, 0)),
                (TEXT, "change 7", BadRule, (7,)), (TEXT, "lamp 5 0", BadPlace, 5), (TEXT, "lamp 0 -1", BadBeats, -1),
                (TEXT, "lamp -1 -1", BadPlace, -1), (TEXT, f"lamp 0 {10 ** 30 + 1}", BadBeats, 10 ** 30 + 1),
                (TEXT, "tells 5", BadPlaces, (5,)), (TEXT, "tells 1 1", BadPlaces, (1, 1)), (TEXT, "tells 1 0", BadPlaces, (1, 0)),
                (TEXT, "tells -1", BadPlaces, (-1,)), (TEXT, "redo", NothingToRedo, None),
                ("kind walls\nrule -1 1\nrow 101", "change 1", NotEven, (1,)),
                ("kind walls\nrule -1 1\nrow 101", "back 1", Loses, 1), ("kind ring\nrule 0\nrow 1", "undo", NothingToUndo, None)]:
            desk = Desk(text)
            raised = caught(desk.say, line)
            self.assertEqual((raised.__class__, raised.value), (error, told), line)
            self.assertEqual(raised.value.__class__, told.__class__)
            self.assertEqual(journal(desk.yard), text)

    def test_lines_that_are_bent(self):
        lines = DEEDS + WORDS + ["lamp 0 1", "tells 0", "tells 0 1", "change -1 0 1"]
        bad = ["", " ", "x", "kind ring", "rule 0", "row 1", "rows", "keep", "trial", "copy", "look 0 0 1", "size 3", "beat",
               "back", "press", "cross", "change", "lamp", "tells", "lamp 0", "lamp 0 0 0", "beat 1 1", "press 1 1", "cross 1 1",
               "back 1 1", "turn 1", "undo 1", "redo 0", "row 0", "clock 1", "lost 1", "tail 0", "period 1", "ahead 1", "say",
               "change x", "change 0 x", "tells x", "tells 0 x", "lamp x 0", "lamp 0 x", "beat x", "beat 1.0", "beat 1_0"]
        for line in lines:
            bad += [line + " ", " " + line, line.upper(), line + "\n", "\n" + line, line + "\nturn", line + " x", line[1:],
                    line.replace("1", "01") if "1" in line else line + " +1", line.replace("0", "-0") if "0" in line else line + " 01",
                    line.replace("1", "+1") if "1" in line else line + ".", line.replace(" ", "  ") if " " in line else line + "  ",
                    line.replace(" ", "\t") if " " in line else line + "\t"]
        desk = Desk(TEXT)
        for line in bad:
            error = caught(desk.say, line)
            self.assertIs(error.__class__, BadLine, line)
            self.assertIs(error.value, line)
        for value in STRANGE + [b"row", ("row",), ["row"], desk, desk.yard]:
            error = caught(desk.say, value)
            self.assertIs(error.__class__, BadLine)
            self.assertIs(error.value, value)
        self.assertEqual(journal(desk.yard), TEXT)
        self.assertEqual(desk.say(line="row"), "11101")

    def test_each_deed(self):
        desk = Desk(TEXT)
        self.assertEqual([desk.say(line) for line in DEEDS], ["ok"] * 9)
        self.assertEqual(journal(desk.yard).split("\n")[5:], DEEDS[:7])

    def test_undo_and_redo(self):
        desk = Desk(TEXT)
        told = [desk.say(line) for line in ("row", "undo", "row", "clock", "undo", "row", "clock", "redo", "redo", "row")]
        self.assertEqual(told, ["11101", "ok", "11001", "1", "ok", "10000", "0", "ok", "ok", "11101"])


class Yards(unittest.TestCase):
    def test_the_very_one(self):
        desk = Desk(TEXT)
        self.assertIs(desk.yard.__class__, Yard)
        self.assertEqual(desk.yard, read_journal(TEXT))
        held = desk.yard
        desk.say("press 0")
        self.assertIs(desk.yard, held)
        self.assertEqual((held.row, held.done), ("01101", 3))
        held.press(1)
        self.assertEqual(desk.say("row"), "00101")
        with desk.yard.trial():
            desk.say("turn")
            self.assertEqual(desk.say("row"), "01010")
        self.assertEqual(desk.say("row"), "00101")
        other = Desk(text=TEXT)
        self.assertIsNot(other.yard, desk.yard)
        self.assertEqual(other.say("row"), "11101")

    def test_bad_journals(self):
        for value in STRANGE + [desk for desk in [Desk(TEXT)]]:
            if not isinstance(value, str):
                error = caught(Desk, value)
                self.assertEqual((error.__class__, error.value), (BadJournal, 0))
        for text, number in [("", 1), ("kind ring", 2), ("kind ring\nrule 0\nrow 2", 3), (TEXT + "\n", 6), (TEXT + "\nundo", 6),
                             (TEXT + "\nturn\npress 9", 7)]:
            error = caught(Desk, text)
            self.assertEqual((error.__class__, error.value), (BadJournal, number))


if __name__ == "__main__":
    unittest.main()
