import random
import re
import unittest

from beatlamps.errors import BadLook, BadLooks, Full, Held, NoLook, Quarrel
from beatlamps.looks import Looks, fits, open_starts, shows_fits
from tests.helper import EVEN_RULES, NO_INTEGERS, QUARREL, RULES, STRANGE, TEXT, UNEVEN, bent, caught, check_refusals
from tests.helper import check_shows, is_text_row, looks_text, right_quarrel, slow_starts, some_looks

HEAD = "kind walls\nsize 4\nrule -1 1"
TWELVE = looks_text("ring", (0, 1), 16, [(beat, 15 - beat, beat % 2) for beat in range(12)])
NUMBER = "(0|-?[1-9][0-9]*)"


def slow_number(text):
    """The number that BadLooks tells of this text, None if it is one of looks."""
    lines = text.split("\n")
    if lines[0] not in ("kind ring", "kind walls"):
        return 1
    if len(lines) < 2 or lines[1] not in [f"size {size}" for size in range(1, 17)]:
        return 2
    size = int(lines[1].split()[1])
    if len(lines) < 3 or not re.fullmatch(f"rule( {NUMBER})+", lines[2]):
        return 3
    rule = [int(word) for word in lines[2].split()[1:]]
    if rule != sorted(set(rule)) or rule[0] < -6 or rule[-1] > 6:
        return 3
    if lines[0] == "kind walls" and sorted(-offset for offset in rule) != rule:
        return 3
    held = set()
    for at in range(3, len(lines)):
        if at > 14 or not re.fullmatch(f"look {NUMBER} {NUMBER} {NUMBER}", lines[at]):
            return at + 1
        beat, place, value = map(int, lines[at].split()[1:])
        if not 0 <= beat <= 10 ** 30 or not 0 <= place < size or value not in (0, 1) or (beat, place) in held:
            return at + 1
        held.add((beat, place))
    return None


def bent_texts(text):
    """The text, bent in one place."""
    lines = text.split("\n")
    for at, line in enumerate(lines):
        others = [line + " ", " " + line, line.replace(" ", "  ", 1), line + " 0", line + " -0", "", " ", line.upper(),
                  line.replace("0", "+0"), line.replace("1", "01"), line.replace("0", "-0"), line.replace("1", "+1"),
                  line.replace(" ", "\t", 1), line.replace("1", "1_0"), line.replace("1", "1.0"), line[1:], line + "x",
                  line.rsplit(" ", 1)[0], line.split(" ", 1)[0], line.replace("1", "2"), line.replace("1", "-1"),
                  line.replace("0", str(10 ** 30)), line.replace("0", str(10 ** 30 + 1)), "look 9 0 1", "turn",
                  "kind ring", "kind walls", "size 1", "size 16", "size 17", "size 0", "rule 0", "rule 1", "rule -1 1",
                  "rule 1 -1", "rule 0 0", "rule", "rule -7 7", "rule -6 6", "kind", "kind Ring", "look", "look 9 0",
                  "look 9 0 1 1", "look 9 3 0", "look 9 4 0", "look 9 0 2", "look 9 -1 0", "look -1 0 0", "Look 9 0 1"]
        for other in others:
            yield "\n".join(lines[:at] + [other] + lines[at + 1:])
            yield "\n".join(lines[:at] + [other] + lines[at:])
        yield "\n".join(lines[:at] + lines[at + 1:])
        yield "\n".join(lines[:at] + [line] + lines[at:])
        yield "\n".join(lines[:at])
    yield from [text + "\n", "\n" + text, text + "\n\n", text.replace("\n", "\n\n", 1), text + "\nlook 9 0 1"]


class LooksClass(unittest.TestCase):
    def test_properties(self):
        looks = Looks(TEXT)
        self.assertEqual((looks.text, looks.kind, looks.size, looks.rule), (TEXT, "walls", 4, (-1, 1)))
        self.assertEqual(looks.seen, ((0, 0, 1), (3, 2, 0), (3, 0, 1)))
        self.assertEqual(len(looks), 3)
        none = Looks("kind ring\nsize 1\nrule -6 -5 0 6")
        self.assertEqual((none.kind, none.size, none.rule, none.seen, len(none)), ("ring", 1, (-6, -5, 0, 6), (), 0))
        far = Looks(text="kind walls\nsize 16\nrule 0\nlook 1000000000000000000000000000000 15 0")
        self.assertEqual(far.seen, ((10 ** 30, 15, 0),))
        self.assertEqual((len(Looks(TWELVE)), Looks(TWELVE).text), (12, TWELVE))

    def test_texts_of_all_rules(self):
        for kind, rules in (("ring", RULES), ("walls", EVEN_RULES)):
            for rule in rules:
                for size in range(1, 17):
                    looks = Looks(looks_text(kind, rule, size, [(size, size - 1, 1)]))
                    self.assertEqual((looks.kind, looks.rule, looks.size, looks.seen), (kind, rule, size, ((size, size - 1, 1),)))

    def test_texts_that_are_bent(self):
        refused = 0
        for text in [TEXT, HEAD, TWELVE, "kind ring\nsize 16\nrule 0 1 2\nlook 0 15 0", QUARREL,
                     "kind ring\nsize 10\nrule -6 0 5\nlook 10 9 1\nlook 0 9 0"]:
            self.assertIsNone(slow_number(text))
            for other in bent_texts(text):
                number, error = slow_number(other), caught(Looks, other)
                refused += number is not None
                if number is None:
                    self.assertIsNone(error, other)
                    self.assertEqual(Looks(other).text, other)
                else:
                    self.assertIs(error.__class__, BadLooks, other)
                    self.assertEqual((error.value, error.value.__class__), (number, int), other)
        self.assertGreater(refused, 2000)

    def test_numbers_of_lines(self):
        for text, number in [("", 1), ("\n", 1), ("kind ring", 2), ("kind ring\n", 2), ("kind ring\nsize 3", 3),
                             ("kind ring\nrule 0", 2), ("kind ring\nsize 3\n", 3), ("kind ring\nsize 3\nrule 0\n", 4),
                             (TEXT + "\n", 7), (TEXT + "\nlook 3 0 0", 7), (TEXT + "\nlook 3 0 1", 7),
                             (TEXT + "\nlook 03 1 1", 7), (TEXT + "\nlook +3 1 1", 7), (TEXT + "\nlook -0 1 1", 7),
                             (TEXT + "\nlook 3 1  1", 7), (TEXT + "\nlook 3 1 1 ", 7), (TEXT + "\nlook 3 4 1", 7),
                             (HEAD + "\nlook 0 0 2", 4), ("size 3\nkind ring\nrule 0", 1), ("kind walls\nsize 3\nrule 1", 3),
                             (TWELVE + "\nlook 99 0 1", 16), (TWELVE + "\nkind ring", 16), (TWELVE + "\n", 16)]:
            self.assertEqual(caught(Looks, text).value, number, text)

    def test_no_texts(self):
        for value in STRANGE + [Looks(TEXT), [TEXT], (TEXT,)]:
            if not isinstance(value, str):
                error = caught(Looks, value)
                self.assertIs(error.__class__, BadLooks)
                self.assertEqual((error.value, error.value.__class__), (0, int))

    def test_what_is_in_them(self):
        looks = Looks(TEXT)
        for look in looks.seen:
            self.assertIs(look in looks, True)
            for other in bent(look):
                self.assertIs(other in looks, repr(other) in [repr(one) for one in looks.seen], other)
        for value in STRANGE + [looks, TEXT, "look 0 0 1", (0, 0), (0, 0, 0), (3, 2, False), (True, 0, 1), (0, 0, True),
                                (False, 0, 1), (0, False, 1), [0, 0, 1], ((0, 0, 1),), looks.seen]:
            self.assertIs(value in looks, False, value)

    def test_when_two_are_equal(self):
        looks = Looks(TEXT)
        self.assertIs(looks == Looks(TEXT), True)
        self.assertIs(looks != Looks(TEXT), False)
        others = {Looks(text).text: Looks(text) for text in bent_texts(TEXT) if slow_number(text) is None}
        del others[TEXT]
        self.assertGreater(len(others), 20)
        for other in others.values():
            self.assertIs(looks == other, False)
            self.assertIs(looks != other, True)
        self.assertNotEqual(Looks(HEAD + "\nlook 0 0 1\nlook 1 0 1"), Looks(HEAD + "\nlook 1 0 1\nlook 0 0 1"))
        for value in STRANGE + [TEXT, (TEXT,), looks.seen, None, 3]:
            self.assertIs(looks == value, False)
            self.assertIs(value == looks, False)
            self.assertIs(looks != value, True)

    def test_with_look(self):
        looks = Looks(TEXT)
        for look in [(1, 0, 1), (0, 1, 0), (10 ** 30, 3, 1), (3, 3, 0), (2, 0, 0)]:
            further = looks.with_look(look)
            self.assertEqual(further, Looks(TEXT + "\nlook " + " ".join(map(str, look))))
            self.assertEqual(further.seen, looks.seen + (look,))
            self.assertEqual(looks.with_look(look=look), further)
        self.assertEqual((looks.text, len(looks)), (TEXT, 3))
        going = Looks("kind ring\nsize 16\nrule 0 1")
        for beat in range(12):
            going = going.with_look((beat, 15 - beat, beat % 2))
        self.assertEqual(going, Looks(TWELVE))

    def test_bad_looks_held_full(self):
        looks = Looks(TEXT)
        bad = STRANGE + [(), (0, 1), (0, 1, 1, 1), [0, 1, 1], (0, 1, 2), (0, 1, -1), (0, 4, 1), (0, -1, 1), (-1, 1, 1),
                         (10 ** 30 + 1, 1, 1), (0, 1, True), (0, True, 1), (True, 1, 1), (0, 1, False), (0, 1, "1"),
                         ("0", 1, 1), (0, None, 1), "0 1 1", "look 0 1 1", ((0, 1, 1),), (0, 4, 2), (0, 0, 2), (3, 0, None)]
        for value in bad:
            for other in (looks, Looks(looks_text("ring", (0,), 4, [(beat, 0, 1) for beat in range(12)]))):
                error = caught(other.with_look, value)
                self.assertIs(error.__class__, BadLook, value)
                self.assertIs(error.value, value)
        for number, (beat, place, _) in enumerate(looks.seen):
            for value in (0, 1):
                error = caught(looks.with_look, (beat, place, value))
                self.assertEqual((error.__class__, error.value), (Held, number))
        full = Looks(TWELVE)
        for number, (beat, place, _) in enumerate(full.seen):
            self.assertEqual((caught(full.with_look, (beat, place, 0)).__class__,
                              caught(full.with_look, (beat, place, 0)).value), (Held, number))
        self.assertEqual((caught(full.with_look, (99, 0, 0)).__class__, caught(full.with_look, (99, 0, 0)).value), (Full, 12))
        self.assertEqual(len(full.without(5).with_look((99, 0, 0))), 12)

    def test_without(self):
        looks = Looks(TEXT)
        for number in range(3):
            less = looks.without(number)
            self.assertEqual(less.seen, looks.seen[:number] + looks.seen[number + 1:])
            self.assertEqual(less, Looks(looks_text("walls", (-1, 1), 4, less.seen)))
            self.assertEqual(looks.without(number=number), less)
        self.assertEqual(looks.without(0).without(0).without(0).text, HEAD)
        self.assertEqual(looks.text, TEXT)
        for value in NO_INTEGERS + [-1, 3, 4, 10 ** 30]:
            error = caught(looks.without, value)
            self.assertIs(error.__class__, NoLook)
            self.assertIs(error.value, value)
        self.assertEqual((caught(Looks(HEAD).without, 0).__class__, caught(Looks(HEAD).without, 0).value), (NoLook, 0))


def right_fits(looks, value):
    if not isinstance(value, tuple) or len(value) != 2:
        return False
    if value[0] == "start":
        return is_text_row(value[1], looks.size) and value[1] in slow_starts(looks)
    return value[0] == "quarrel" and right_quarrel(looks, value[1])


class Fits(unittest.TestCase):
    def test_all_starts_gone_through(self):
        chance = random.Random(8)
        words = []
        for looks in some_looks(chance, 250) + some_looks(chance, 150, right=10) + some_looks(chance, 100, right=9):
            starts = slow_starts(looks)
            told = fits(looks)
            words.append(told[0])
            self.assertEqual(told[0], "start" if starts else "quarrel")
            self.assertTrue(right_fits(looks, told), (looks.text, told))
            self.assertEqual(fits(Looks(looks.text)), told)
            if starts:
                self.assertEqual(2 ** open_starts(looks), len(starts))
            else:
                error = caught(open_starts, looks)
                self.assertIs(error.__class__, Quarrel)
                self.assertTrue(right_quarrel(looks, error.value))
        self.assertGreater(min(words.count("start"), words.count("quarrel")), 100)

    def test_no_look(self):
        for size in (1, 2, 16):
            looks = Looks(f"kind ring\nsize {size}\nrule 0")
            self.assertEqual((fits(looks)[0], open_starts(looks)), ("start", size))
            self.assertIs(shows_fits(looks, ("start", "1" * size)), True)

    def test_shows(self):
        chance = random.Random(9)
        for looks in some_looks(chance, 20, sizes=(1, 2, 3)) + some_looks(chance, 10, sizes=(2, 3, 4), right=10):
            values = [fits(looks)] + [("start", row) for row in slow_starts(looks)]
            if len(looks) < 7:
                lots = [tuple(at for at in range(len(looks)) if bits >> at & 1) for bits in range(2 ** len(looks))]
                values += [("quarrel", lot) for lot in lots]
            check_shows(self, shows_fits, (looks,), right_fits, values)

    def test_shows_other_results(self):
        looks = Looks(QUARREL)
        self.assertIs(shows_fits(looks, ("quarrel", (0, 2))), True)
        self.assertIs(shows_fits(looks, ("quarrel", (2, 0))), False)
        self.assertIs(shows_fits(looks, ("quarrel", (0, 1, 2))), False)
        self.assertIs(shows_fits(looks, ("quarrel", (False, 2))), False)
        self.assertIs(shows_fits(looks, ("quarrel", [0, 2])), False)
        two = looks.with_look((4, 2, 1))
        self.assertEqual([shows_fits(two, ("quarrel", lot)) for lot in ((0, 2), (1, 3), (0, 1, 2, 3))], [True, True, False])

    def test_sixteen_lamps(self):
        looks = Looks("kind walls\nsize 16\nrule -6 -1 0 1 6" + "".join(f"\nlook {10 ** 30 - at} {at} 1" for at in range(12)))
        word, start = fits(looks)
        self.assertEqual(word, "start")
        self.assertIs(shows_fits(looks, (word, start)), True)
        self.assertEqual(open_starts(looks), 4)

    def test_refusals(self):
        error = caught(open_starts, Looks(QUARREL))
        self.assertEqual((error.__class__, error.value), (Quarrel, (0, 2)))
        self.assertEqual(caught(open_starts, looks=Looks(QUARREL)).value, (0, 2))
        check_refusals(self, open_starts, {"looks": Looks(TEXT)}, [])
        check_refusals(self, shows_fits, {"looks": Looks(TEXT), "value": None}, [])


if __name__ == "__main__":
    unittest.main()
