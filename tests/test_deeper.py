import unittest

from beatlamps.deeper import before, depth, shows_before, shows_depth
from beatlamps.errors import BadBeats
from beatlamps.rules import turned
from tests.helper import EVEN_RULES, NO_BEATS, NO_INTEGERS, NO_ROWS, STRANGE, all_rows, check_refusals, kinds_and_rules
from tests.helper import meets_oddly, slow_after, slow_beat, slow_long_after
from tests.test_gardens import wrongs

SMALL = [(kind, rule, size) for kind, rule in kinds_and_rules() for size in range(1, 6)]
SMALL = SMALL + [("walls", rule, size) for rule in EVEN_RULES[::5] for size in range(1, 5)] + [("ring", (0, 1), 8)]
TINY = [(kind, rule, size) for kind, rule in kinds_and_rules()[::2] for size in range(1, 4)] + [("walls", (-1, 1), 3)]
GREAT_ROWS = ["1" + "0" * 23, "110100100010000100000101", "1" * 24, "10" * 8, "1" + "0" * 15, "0" * 24]


def slow_comings(kind, rule, size):
    """The list of what all rows become by 0, 1, 2 .. beats, one more than there are lamps, and another one."""
    going = {row: row for row in all_rows(size)}
    comings = []
    for _ in range(size + 2):
        comings.append(dict(going))
        going = {row: slow_beat(kind, rule, there) for row, there in going.items()}
    return comings


def evenly(marks, rows):
    return not any(meets_oddly(marks, row) for row in rows)


class Depth(unittest.TestCase):
    def test_refusals(self):
        for kind in ("ring", "walls"):
            good = {"kind": kind, "rule": (-6, 0, 6), "row": "1"}
            check_refusals(self, depth, good, wrongs(kind, "row"))
            check_refusals(self, shows_depth, {**good, "value": None}, wrongs(kind, "row"))

    def test_all_small_rows(self):
        for kind, rule, size in SMALL:
            comings = [set(there.values()) for there in slow_comings(kind, rule, size)]
            self.assertEqual(comings[size], comings[size + 1])
            for row in all_rows(size):
                told = depth(kind, rule, row)
                self.assertIs(shows_depth(kind, rule, row, told), True)
                if row in comings[size]:
                    self.assertEqual(told, ("always",))
                    continue
                word, number, marks = told
                self.assertEqual(word, "beats")
                self.assertIn(row, comings[number])
                self.assertNotIn(row, comings[number + 1])
                self.assertTrue(meets_oddly(marks, row) and evenly(marks, comings[number + 1]))

    def test_edges(self):
        self.assertEqual(depth("ring", (-1, 1), "0"), ("always",))
        self.assertEqual(depth("ring", (-1, 1), "1"), ("beats", 0, "1"))
        self.assertEqual(depth("ring", (0, 1), "1" * 24)[:2], ("beats", 7))
        self.assertEqual(depth("ring", (0, 1), "1" * 16)[:2], ("beats", 15))
        self.assertEqual(depth("ring", (0, 1), "1" + "0" * 15)[:2], ("beats", 0))
        self.assertEqual(depth("ring", (1,), "1" + "0" * 23), ("always",))

    def test_great_rows(self):
        for kind, rule in kinds_and_rules():
            for row in GREAT_ROWS:
                told = depth(kind, rule, row)
                if told == ("always",):
                    self.assertEqual(before(kind, rule, row, 10 ** 30)[0], "row")
                    continue
                word, number, marks = told
                self.assertEqual((word, len(told)), ("beats", 3))
                self.assertEqual(before(kind, rule, row, number)[0], "row")
                self.assertEqual(before(kind, rule, row, number + 1)[0], "garden")
                self.assertTrue(meets_oddly(marks, row))
                for at in range(len(row)):
                    alone = "0" * at + "1" + "0" * (len(row) - at - 1)
                    self.assertFalse(meets_oddly(marks, slow_long_after(kind, rule, alone, number + 1)))

    def test_a_beat_more(self):
        for kind, rule in kinds_and_rules():
            for row in GREAT_ROWS:
                told, then = depth(kind, rule, row), depth(kind, rule, slow_beat(kind, rule, row))
                if told == ("always",):
                    self.assertEqual(then, told)
                elif then != ("always",):
                    self.assertGreater(then[1], told[1])

    def test_turned_about(self):
        for kind, rule in kinds_and_rules():
            for row in GREAT_ROWS:
                self.assertEqual(depth(kind, turned(rule), row[::-1])[:2], depth(kind, rule, row)[:2])
                if kind == "ring":
                    self.assertEqual(depth(kind, rule, row[5:] + row[:5])[:2], depth(kind, rule, row)[:2])

    def test_shows_all_small_values(self):
        for kind, rule, size in TINY:
            comings = [set(there.values()) for there in slow_comings(kind, rule, size)]
            for row in all_rows(size):
                self.assertIs(shows_depth(kind, rule, row, ("always",)), row in comings[size])
                for number in range(size + 1):
                    for marks in all_rows(size):
                        right = row in comings[number] and meets_oddly(marks, row) and evenly(marks, comings[number + 1])
                        self.assertIs(shows_depth(kind, rule, row, ("beats", number, marks)), right)

    def test_shows_any_value(self):
        row, right = "1010", ("beats", 1, "1000")
        self.assertIs(shows_depth("ring", (-1, 1), row, right), True)
        bent = [list(right), right[:2], right + (0,), ("beats", True, "1000"), ("beats", "1", "1000"), ("always",),
                ("beats", 0, "1000"), ("beats", 2, "1000"), ("beats", -1, "1000"), ("beats", 1, "0100" + "0"),
                ("beats", 1, ["1000"]), ("beats", 1, ("1000",)), ("beats", 1, "0000"), ("beats", 1, "100"),
                ("beat", 1, "1000"), (1, "beats", "1000"), (None, 1, "1000"), "always", ("beats", 1, 1000),
                ("beats", 10 ** 30, "1000"), ("beats", 1, "1010"), ("beats", 1, None)]
        for value in bent + STRANGE + NO_ROWS + [("beats", 1, value) for value in NO_ROWS]:
            self.assertIs(shows_depth("ring", (-1, 1), row, value), False, value)
        for value in NO_INTEGERS:
            self.assertIs(shows_depth("ring", (-1, 1), row, ("beats", value, "1000")), False)
        self.assertIs(shows_depth("ring", (1,), row, ("always",)), True)
        for value in bent[:5] + bent[6:] + [["always"], ("always", 0), ("Always",), (None,), (("always",),)] + STRANGE:
            self.assertIs(shows_depth("ring", (1,), row, value), False, value)


class Before(unittest.TestCase):
    def test_refusals(self):
        for kind in ("ring", "walls"):
            good = {"kind": kind, "rule": (-6, 0, 6), "row": "1", "beats": 10 ** 30}
            more = wrongs(kind, "row") + [("beats", BadBeats, NO_BEATS)]
            check_refusals(self, before, good, more)
            check_refusals(self, shows_before, {**good, "value": None}, more)

    def test_all_small_rows(self):
        for kind, rule, size in SMALL:
            for beats, there in enumerate(slow_comings(kind, rule, size)):
                come = set(there.values())
                for row in all_rows(size):
                    word, other = told = before(kind, rule, row, beats)
                    self.assertIs(shows_before(kind, rule, row, beats, told), True)
                    self.assertEqual(word, "row" if row in come else "garden")
                    if word == "row":
                        self.assertEqual(there[other], row)
                    else:
                        self.assertTrue(meets_oddly(other, row) and evenly(other, come))

    def test_great_rows(self):
        for kind, rule in kinds_and_rules():
            for row in GREAT_ROWS:
                for beats in (0, 1, 8, 24, 10 ** 20 + 1, 10 ** 30):
                    word, other = before(kind, rule, row, beats)
                    if word == "row":
                        self.assertEqual(slow_long_after(kind, rule, other, beats), row)
                        continue
                    self.assertTrue(meets_oddly(other, row))
                    for at in range(len(row)):
                        alone = "0" * at + "1" + "0" * (len(row) - at - 1)
                        self.assertFalse(meets_oddly(other, slow_long_after(kind, rule, alone, beats)))

    def test_edges(self):
        for row in ("0", "1", "1" * 24):
            self.assertEqual(before("ring", (-1, 1), row, 0), ("row", row))
            self.assertEqual(before("walls", (-1, 1), row, 0), ("row", row))
        self.assertEqual(before("ring", (1,), "100", 10 ** 30), ("row", "010"))
        self.assertEqual(before("ring", (-1, 1), "1", 10 ** 30), ("garden", "1"))

    def test_shows_all_small_values(self):
        for kind, rule, size in TINY:
            for beats, there in enumerate(slow_comings(kind, rule, size)):
                come = set(there.values())
                for row in all_rows(size):
                    for other in all_rows(size):
                        self.assertIs(shows_before(kind, rule, row, beats, ("row", other)), there[other] == row)
                        right = meets_oddly(other, row) and evenly(other, come)
                        self.assertIs(shows_before(kind, rule, row, beats, ("garden", other)), right)

    def test_shows_any_value(self):
        row = slow_after("walls", (-1, 1), "1000", 3)
        self.assertIs(shows_before("walls", (-1, 1), row, 3, ("row", "1000")), True)
        for value in [["row", "1000"], ("row",), ("row", "1000", 0), ("row", ["1000"]), ("row", "10000"), ("row", "0100"),
                      ("garden", "1000"), ("roW", "1000"), (0, "1000"), ("row", 1000), "row", ("1000", "row")] + STRANGE:
            self.assertIs(shows_before("walls", (-1, 1), row, 3, value), False)
        for value in NO_ROWS:
            self.assertIs(shows_before("walls", (-1, 1), row, 3, ("row", value)), False)
            self.assertIs(shows_before("walls", (-1, 1), row, 3, ("garden", value)), False)


if __name__ == "__main__":
    unittest.main()
