import random
import re
import unittest

from beatlamps.errors import BadJournal
from beatlamps.journals import journal, read_journal
from beatlamps.looks import Looks
from beatlamps.yards import Yard
from tests.helper import EVEN_RULES, RULES, STRANGE, SlowYard, all_rows, caught, check_refusals, do_deed_on, kinds_and_rules
from tests.helper import slow_back, some_deed

NUMBER = "(0|-?[1-9][0-9]*)"
FORMS = [f"{word} {NUMBER}" for word in ("beat", "back", "press", "cross")] + [f"change( {NUMBER})+", "turn"]
ALL = ("kind walls\nrule -1 1\nrow 1101\nbeat 1\nback 3\npress 0\ncross 3\nchange -1 0 1\nturn\nchange -1 1\n"
       "back 1000000000000000000000000000000\nbeat 1000000000000000000000000000000\nturn")
RING = "kind ring\nrule -6 1 6\nrow 10110\nturn\ncross 0\nchange 1\nback 10\npress 4\nchange 0\nbeat 1"
TWO = "kind ring\nrule -1 1\nrow 10\npress 0\npress 1\nchange -1 0 1\nback 1"


def slow_read(text):
    """The number that BadJournal tells of this text, or the yard of it."""
    lines = text.split("\n")
    if lines[0] not in ("kind ring", "kind walls"):
        return 1
    kind = lines[0].split()[1]
    if len(lines) < 2 or not re.fullmatch(f"rule( {NUMBER})+", lines[1]):
        return 2
    rule = tuple(int(word) for word in lines[1].split()[1:])
    if SlowYard(kind, (0,), "1").do("change", rule) is not None:
        return 2
    if len(lines) < 3 or not re.fullmatch("row [01]{1,24}", lines[2]):
        return 3
    yard = SlowYard(kind, rule, lines[2].split()[1])
    for at, line in enumerate(lines[3:]):
        if not any(re.fullmatch(form, line) for form in FORMS):
            return at + 4
        word, *numbers = line.split()
        numbers = tuple(map(int, numbers))
        value = numbers if word == "change" else numbers[0] if numbers else None
        if yard.do(word, value) is not None:
            return at + 4
    return yard


def bent_texts(text):
    """The text, with each line out, twice, or bent."""
    lines = text.split("\n")
    for at, line in enumerate(lines):
        others = [line + " ", " " + line, line.replace(" ", "  ", 1), line + " 0", line + " x", "", " ", line.upper(),
                  line.replace("0", "+0"), line.replace("1", "01"), line.replace("0", "-0"), line.replace("1", "+1"),
                  line.replace(" ", "\t", 1), line.replace("1", "1_0"), line.replace("1", "1.0"), line[1:], line + "x",
                  line.rsplit(" ", 1)[0], line.split(" ", 1)[0], line.replace("1", "2"), line.replace("1", "-1"),
                  "turn", "turn 0", "turn ", "Turn", "beat 1", "beat 0", "beat -1", "beat", "beat 1 1", "beat x",
                  f"beat {10 ** 30}", f"beat {10 ** 30 + 1}", "beat 01", "back 1", "back 0", "press 0", "press 3", "press 4",
                  "press 5", "press -1", "cross 0", "cross 4", "cross -1", "cross", "change 0", "change 1", "change -1 1",
                  "change 1 -1", "change 0 0", "change", "change 7", "change -6 6", "kind ring", "kind walls", "kind", "kind x",
                  "rule 0", "rule 1", "rule -1 1", "rule 1 0", "rule", "row 1", "row", "row ", "row 2", "row 1 1", "undo",
                  "redo", "keep", "lamp 0 0", "row 10101", "look 0 0 1", "size 3"]
        for other in others:
            yield "\n".join(lines[:at] + [other] + lines[at + 1:])
            yield "\n".join(lines[:at] + [other] + lines[at:])
        yield "\n".join(lines[:at] + lines[at + 1:])
        yield "\n".join(lines[:at] + [line] + lines[at:])
        yield "\n".join(lines[:at])
        yield "\n".join(lines[:at] + lines[at + 1:at + 2] + [line] + lines[at + 2:])
    yield from [text + "\n", "\n" + text, text + "\n\n", text.replace("\n", "\n\n", 1), "\n".join(lines[::-1])]


class Journal(unittest.TestCase):
    def test_lines(self):
        yard = Yard("walls", (-1, 1), "1101")
        self.assertEqual(journal(yard), "kind walls\nrule -1 1\nrow 1101")
        for line in ALL.split("\n")[3:]:
            word, *numbers = line.split()
            value = tuple(map(int, numbers)) if word == "change" else int(numbers[0]) if numbers else None
            self.assertIsNone(do_deed_on(yard, word, value), line)
        self.assertEqual(journal(yard), ALL)
        self.assertEqual(journal(yard=yard), ALL)
        for at in range(len(ALL.split("\n")) - 3):
            yard.undo()
            self.assertEqual(journal(yard), "\n".join(ALL.split("\n")[:-1 - at]))
        yard.redo()
        self.assertEqual(journal(yard), "\n".join(ALL.split("\n")[:4]))

    def test_refused_deeds_and_trials_stand_nowhere(self):
        yard = Yard("ring", (-6, 0, 1), "1")
        for word, value in [("beat", 0), ("press", 1), ("change", ()), ("redo", None), ("undo", None), ("keep", None)]:
            self.assertIsNotNone(do_deed_on(yard, word, value))
        yard.tried(lambda inner: inner.press(0))
        self.assertEqual(journal(yard), "kind ring\nrule -6 0 1\nrow 1")
        yard.tried(lambda inner: inner.press(0), keep=True)
        self.assertEqual(journal(yard), "kind ring\nrule -6 0 1\nrow 1\npress 0")

    def test_first_rule_and_row(self):
        yard = Yard("ring", (0, 1), "10")
        yard.change((-1, 1))
        yard.press(1)
        self.assertEqual(journal(yard).split("\n")[:3], ["kind ring", "rule 0 1", "row 10"])


class ReadJournal(unittest.TestCase):
    def check_read(self, text):
        expected, error = slow_read(text), None
        if isinstance(expected, int):
            error = caught(read_journal, text)
            self.assertIs(error.__class__, BadJournal, text)
            self.assertEqual((error.value, error.value.__class__), (expected, int), text)
            return 1
        yard = read_journal(text)
        rule, row, clock = expected.state()
        self.assertIs(yard.__class__, Yard)
        self.assertEqual((yard.kind, yard.rule, yard.row, yard.first, yard.clock, yard.done),
                         (expected.kind, rule, row, expected.first, clock, len(expected.deeds)))
        self.assertEqual(journal(yard), text)
        return 0

    def test_texts_that_are_bent(self):
        for text in (ALL, RING, TWO, "kind ring\nrule 0\nrow 1", "kind walls\nrule -6 0 6\nrow " + "01" * 3):
            self.assertEqual(self.check_read(text), 0)
            refused = sum([self.check_read(other) for other in bent_texts(text)])
            self.assertGreater(refused, 150)

    def test_all_kinds_rules_and_sizes(self):
        for kind, rules in (("ring", RULES), ("walls", EVEN_RULES)):
            for rule in rules:
                for size in (1, 2, 16, 17, 24):
                    text = f"kind {kind}\nrule {' '.join(map(str, rule))}\nrow {'1' * size}\npress {size - 1}\nturn"
                    yard = read_journal(text)
                    self.assertEqual((yard.kind, yard.rule, len(yard), yard.done, journal(yard)), (kind, rule, size, 2, text))
        self.assertEqual(caught(read_journal, "kind ring\nrule 0\nrow " + "1" * 25).value, 3)

    def test_read_back(self):
        chance = random.Random(28)
        for kind, rule in kinds_and_rules():
            yard = Yard(kind, rule, chance.choice(all_rows(4)))
            for _ in range(20):
                do_deed_on(yard, *some_deed(chance, 4))
            other = read_journal(journal(yard))
            self.assertEqual(other, yard)
            self.assertEqual((other.rule, other.row, other.clock, other.done), (yard.rule, yard.row, yard.clock, yard.done))
            self.assertEqual(read_journal(text=journal(yard)), other)
            self.assertIsNot(read_journal(journal(yard)), other)

    def test_numbers_of_lines(self):
        for text, number in [("", 1), ("\n", 1), ("kind ring", 2), ("kind ring\n", 2), ("kind ring\nrule 0", 3),
                             ("kind ring\nrule 0\n", 3), ("kind ring\nrow 1", 2), ("rule 0\nkind ring\nrow 1", 1),
                             ("kind walls\nrule 1\nrow 1", 2), ("kind x\nrule 0\nrow 1", 1), ("kind ring\nrule 0\nrow 12", 3),
                             ("kind ring\nrule 0\nrow 1\n", 4), ("kind ring\nrule 0\nrow 1\nturn\n", 5),
                             ("kind ring\nrule 0\nrow 1\nturn\nundo", 5), ("kind ring\nrule 0\nrow 1\npress 1\nturn", 4),
                             ("kind ring\nrule -1 1\nrow 11\nback 1", 4), ("kind ring\nrule 0\nrow 1\nback 0", 4),
                             ("kind walls\nrule 0\nrow 1\nchange 1", 4), ("kind ring\nrule 0\nrow 1\nrow 1", 4),
                             ("kind ring x\nrule 0\nrow 1", 1), ("kind ring\nrule 0\nrow 1 1", 3), ("kind ring\nrule 0\nrow", 3)]:
            error = caught(read_journal, text)
            self.assertEqual((error.__class__, error.value), (BadJournal, number), text)

    def test_a_deed_that_loses(self):
        self.assertEqual(slow_back("ring", (-1, 1), "11", 1)[0], 2)
        self.check_read("kind ring\nrule -1 1\nrow 11\nchange 0\nback 1\nchange -1 1\nback 1")

    def test_no_texts(self):
        for value in STRANGE + [Yard("ring", (0,), "1"), Looks("kind ring\nsize 1\nrule 0"), (ALL,), [ALL]]:
            if not isinstance(value, str):
                error = caught(read_journal, value)
                self.assertEqual((error.__class__, error.value, error.value.__class__), (BadJournal, 0, int))
        check_refusals(self, read_journal, {"text": ALL}, [("text", BadJournal, [3, None, True, [ALL]], 0),
                                                           ("text", BadJournal, ["", "x", ALL[1:]], 1)])


if __name__ == "__main__":
    unittest.main()
