import random
import unittest

from beatlamps.errors import BadBeats, BadKind, BadPlaces, BadPresses, BadRow, BadRule, BadSize, NotEven, OtherSize
from beatlamps.hands import led, shows_soonest, shows_steered, shows_steers_all, soonest, steered, steers_all
from beatlamps.places import shows_tells_all, tells_all
from tests.helper import NO_BEATS, NO_INTEGERS, NO_KINDS, NO_PLACES_IN_4, NO_ROWS, NO_RULES, RULES, SOME_EVEN, STRANGE
from tests.helper import UNEVEN, all_places, all_rows, caught, check_refusals, check_shows, is_lot_below, is_text_row
from tests.helper import kinds_and_rules, meets_oddly, slow_after, slow_beat, slow_reached, slow_sum

NO_SIZES = NO_INTEGERS + [0, -1, 17, 18, 24, 10 ** 30]
FIRST = [("kind", BadKind, NO_KINDS), ("rule", BadRule, NO_RULES), ("rule", NotEven, UNEVEN)]
SOME = kinds_and_rules(RULES[::2] + [(0, 1)], SOME_EVEN[::2] + [(-1, 1)])


def slow_led(kind, rule, row, presses):
    for lot in presses:
        row = slow_beat(kind, rule, row)
        for place in lot:
            row = row[:place] + str(1 - int(row[place])) + row[place + 1:]
    return row


class Led(unittest.TestCase):
    def test_beat_by_beat(self):
        chance = random.Random(21)
        for kind, rule in kinds_and_rules():
            for size in (1, 2, 3, 7, 24):
                for beats in (0, 1, 2, 9):
                    row = "".join(chance.choice("01") for _ in range(size))
                    presses = tuple(tuple(sorted(chance.sample(range(size), chance.randrange(size + 1))))
                                    for _ in range(beats))
                    self.assertEqual(led(kind, rule, row, presses), slow_led(kind, rule, row, presses))

    def test_the_rule_is_first(self):
        self.assertEqual(led("ring", (1,), "1000", ((0,),)), "1001")
        self.assertEqual(led("ring", (1,), "1000", ()), "1000")
        self.assertEqual(led("ring", (1,), "1000", ((),)), "0001")

    def test_64_beats(self):
        presses = tuple((at % 24,) for at in range(64))
        for kind, rule in kinds_and_rules()[::3]:
            self.assertEqual(led(kind, rule, "1" * 24, presses), slow_led(kind, rule, "1" * 24, presses))

    def test_sums(self):
        chance = random.Random(22)
        for kind, rule in kinds_and_rules():
            for _ in range(5):
                one, other = chance.choice(all_rows(6)), chance.choice(all_rows(6))
                presses = tuple((at,) for at in range(6))
                both = slow_sum(led(kind, rule, one, presses), led(kind, rule, other, ((),) * 6))
                self.assertEqual(led(kind, rule, slow_sum(one, other), presses), both)

    def test_refusals(self):
        no_presses = [value for value in STRANGE if value != ((),)]
        no_presses += [0, (0,), (0, 1), ((0,), 0), ((4,),), ((-1,),), ((0, 0),), ((1, 0),), ((True,),), ((0, False),), [(0,)],
                       ([0],), ((0,), [0]), ("0",), ((0,), (0, 4)), ("",), ((),) * 65, ((0,),) * 65, ((0,),) * 200, ((0,), None)]
        no_presses = [value for value in no_presses if value != ()]
        wrongs = FIRST + [("row", BadRow, NO_ROWS), ("presses", BadPresses, no_presses)]
        check_refusals(self, led, {"kind": "walls", "rule": (-1, 1), "row": "0110", "presses": ((0, 3), ())}, wrongs)
        self.assertEqual(led("walls", (-1, 1), "0110", ((),) * 64), slow_after("walls", (-1, 1), "0110", 64))


def slow_steered(kind, rule, places, row, beats):
    rows = [row]
    for _ in range(beats):
        rows = slow_reached(kind, rule, rows, places)
    return rows


def are_presses(value, places, beats):
    if not isinstance(value, tuple) or len(value) != beats:
        return False
    return all(is_lot_below(lot, 25) and set(lot) <= set(places) for lot in value)


def right_steered(kind, rule, places, row, goal, beats, value):
    if not isinstance(value, tuple) or len(value) != 2:
        return False
    if value[0] == "presses":
        return are_presses(value[1], places, beats) and slow_led(kind, rule, row, value[1]) == goal
    if value[0] != "never" or not is_text_row(value[1], len(row)):
        return False
    reached = slow_steered(kind, rule, places, "0" * len(row), beats)
    if any(meets_oddly(value[1], other) for other in reached):
        return False
    return meets_oddly(value[1], slow_sum(goal, slow_after(kind, rule, row, beats)))


class Steered(unittest.TestCase):
    def test_all_presses_gone_through(self):
        chance = random.Random(23)
        words = []
        for kind, rule in SOME:
            for _ in range(30):
                size = chance.randrange(1, 6)
                places = chance.choice(all_places(size))
                row, goal = chance.choice(all_rows(size)), chance.choice(all_rows(size))
                beats = chance.randrange(0, 5)
                told = steered(kind, rule, places, row, goal, beats)
                words.append(told[0])
                self.assertEqual(told[0] == "presses", goal in slow_steered(kind, rule, places, row, beats))
                self.assertTrue(right_steered(kind, rule, places, row, goal, beats, told), (kind, rule, places, row, goal))
        self.assertGreater(min(words.count("presses"), words.count("never")), 150)

    def test_no_beat(self):
        self.assertEqual(steered("ring", (1,), (0,), "110", "110", 0), ("presses", ()))
        word, marks = steered("ring", (1,), (0,), "110", "010", 0)
        self.assertEqual((word, meets_oddly(marks, "100")), ("never", True))

    def test_32_beats_and_24_lamps(self):
        for kind, rule in kinds_and_rules()[::2]:
            for places in [(0,), (23,), tuple(range(24))]:
                told = steered(kind, rule, places, "1" * 24, "01" * 12, 32)
                if told[0] == "presses":
                    self.assertEqual(slow_led(kind, rule, "1" * 24, told[1]), "01" * 12)
                self.assertIs(shows_steered(kind, rule, places, "1" * 24, "01" * 12, 32, told), True)
        self.assertEqual(steered("walls", (-1, 1), (0,), "1" * 24, "01" * 12, 32)[0], "presses")
        self.assertEqual(steered("walls", (-1, 1), (0,), "1" * 24, "01" * 12, 23)[0], "never")

    def test_shows(self):
        cases = [("ring", (-1, 1), (0,), "000", "010", 5), ("walls", (-1, 1), (0, 1), "100", "011", 2),
                 ("ring", (1,), (0,), "100", "001", 1), ("ring", (0,), (1,), "10", "10", 2), ("ring", (0,), (1,), "10", "01", 0),
                 ("ring", (0, 1), (0, 2), "1111", "0101", 1)]
        for case in cases:
            values = [steered(*case)] + [("never", row) for row in all_rows(len(case[3]))]
            lots = [()] + all_places(len(case[3]))
            values += [("presses", (one, other)[:case[5]]) for one in lots for other in lots[:5]][:30]
            check_shows(self, shows_steered, case, right_steered, values)

    def test_shows_other_presses(self):
        case = ("ring", (0,), (1,), "10", "10", 3)
        for presses in [((), (), ()), ((1,), (1,), ()), ((1,), (), (1,)), ((), (1,), (1,))]:
            self.assertIs(shows_steered(*case, ("presses", presses)), True)
        for presses in [((1,), (), ()), ((0,), (0,), ()), ((), ()), ((), (), (), ()), ((1,), (1,), [])]:
            self.assertIs(shows_steered(*case, ("presses", presses)), False)

    def test_refusals(self):
        good = {"kind": "walls", "rule": (-1, 1), "places": (0, 3), "row": "0110", "goal": "1111", "beats": 32}
        no_beats = NO_BEATS + [33, 34, 10 ** 30]
        other = ["1", "111", "00000", "1" * 24]
        wrongs = FIRST + [("row", BadRow, NO_ROWS), ("places", BadPlaces, NO_PLACES_IN_4), ("goal", BadRow, NO_ROWS),
                          ("goal", OtherSize, other), ("beats", BadBeats, no_beats)]
        check_refusals(self, steered, good, wrongs)
        check_refusals(self, shows_steered, {**good, "value": None}, wrongs)
        self.assertEqual(caught(steered, "ring", (0,), (3,), "110", "110", 0).value, (3,))


def slow_soonest(kind, rule, places, goal):
    """The least number of beats by which the dark row becomes goal, None if it never does; and all that can be made."""
    rows, beats = ["0" * len(goal)], 0
    found = None
    while True:
        if goal in rows and found is None:
            found = beats
        further = slow_reached(kind, rule, rows, places)
        if further == rows:
            return found, rows
        rows, beats = further, beats + 1


def right_soonest(kind, rule, places, goal, value):
    if not isinstance(value, tuple) or not value:
        return False
    found, rows = slow_soonest(kind, rule, places, goal)
    if len(value) == 3 and value[0] == "beats":
        if value[1].__class__ is not int or value[1] != found or not are_presses(value[2], places, found):
            return False
        return slow_led(kind, rule, "0" * len(goal), value[2]) == goal
    if len(value) != 2 or value[0] != "never" or not is_text_row(value[1], len(goal)):
        return False
    return meets_oddly(value[1], goal) and not any(meets_oddly(value[1], row) for row in rows)


class Soonest(unittest.TestCase):
    def test_all_presses_gone_through(self):
        chance = random.Random(24)
        found = []
        for kind, rule in SOME:
            for _ in range(20):
                size = chance.randrange(1, 6)
                places, goal = chance.choice(all_places(size)), chance.choice(all_rows(size))
                told = soonest(kind, rule, places, goal)
                self.assertTrue(right_soonest(kind, rule, places, goal, told), (kind, rule, places, goal, told))
                found.append(told[1] if told[0] == "beats" else told[0])
        self.assertLessEqual({0, 1, 2, 3, 4, 5, "never"}, set(found))

    def test_dark_goals_and_24_lamps(self):
        self.assertEqual(soonest("walls", (-1, 1), (0,), "0" * 24), ("beats", 0, ()))
        for goal, beats in [("1" + "0" * 23, 1), ("0" * 23 + "1", 24), ("01" * 12, 24)]:
            told = soonest("walls", (-1, 1), (0,), goal)
            self.assertEqual(told[:2], ("beats", beats))
            self.assertEqual(slow_led("walls", (-1, 1), "0" * 24, told[2]), goal)
            self.assertIs(shows_soonest("walls", (-1, 1), (0,), goal, told), True)
        for kind, rule in kinds_and_rules():
            told = soonest(kind, rule, (0, 7), "01" * 12)
            self.assertIs(shows_soonest(kind, rule, (0, 7), "01" * 12, told), True)

    def test_a_goal_that_is_never_made(self):
        self.assertEqual(soonest("ring", (0,), (0,), "01"), ("never", "01"))
        told = soonest("walls", (-1, 1), (1,), "110")
        self.assertEqual(told[0], "never")
        self.assertTrue(right_soonest("walls", (-1, 1), (1,), "110", told))

    def test_shows(self):
        for case in [("walls", (-1, 1), (0,), "0100"), ("ring", (0,), (0,), "011"), ("ring", (1,), (0, 1), "1111"),
                     ("ring", (-1, 1), (0,), "000"), ("walls", (-1, 1), (1,), "110")]:
            number = slow_soonest(*case)[0]
            lots = [()] + all_places(len(case[3]))
            values = [soonest(*case)] + [("never", row) for row in all_rows(len(case[3]))]
            values += [("beats", beats, (one, other, ())[:beats]) for beats in range(4) for one in lots for other in lots[:3]][::3]
            self.assertTrue(number is None or number < 4)
            check_shows(self, shows_soonest, case, right_soonest, values)

    def test_shows_other_presses(self):
        case = ("ring", (1,), (0, 1), "1100")
        self.assertIs(shows_soonest(*case, ("beats", 1, ((0, 1),))), True)
        self.assertIs(shows_soonest(*case, ("beats", 2, ((), (0, 1)))), False)
        self.assertIs(shows_soonest(*case, ("beats", True, ((0, 1),))), False)
        case = ("ring", (1,), (0, 1), "1001")
        for presses, right in [(((0,), (0,)), True), (((0, 1), ()), True), (((0,), (0, 1)), False), (((3,), (0,)), False)]:
            self.assertIs(shows_soonest(*case, ("beats", 2, presses)), right)

    def test_refusals(self):
        good = {"kind": "walls", "rule": (-1, 1), "places": (0, 3), "goal": "1111"}
        wrongs = FIRST + [("goal", BadRow, NO_ROWS), ("places", BadPlaces, NO_PLACES_IN_4)]
        check_refusals(self, soonest, good, wrongs)
        check_refusals(self, shows_soonest, {**good, "value": None}, wrongs)


def right_steers(kind, rule, size, places, value):
    if not isinstance(value, tuple) or len(value) != 2:
        return False
    found = [slow_soonest(kind, rule, places, goal)[0] for goal in all_rows(size)]
    if value[0] == "all":
        return value[1].__class__ is int and None not in found and value[1] == max(found)
    if value[0] != "barred" or not is_text_row(value[1], size) or "1" not in value[1]:
        return False
    return not any(meets_oddly(value[1], row) for row in slow_soonest(kind, rule, places, "0" * size)[1])


class SteersAll(unittest.TestCase):
    def test_all_presses_gone_through(self):
        words = []
        for kind, rule in SOME:
            for size in (1, 2, 3, 4):
                for places in all_places(size)[::1 if size < 4 else 3]:
                    told = steers_all(kind, rule, size, places)
                    words.append(told[0])
                    self.assertTrue(right_steers(kind, rule, size, places, told), (kind, rule, size, places, told))
        self.assertGreater(min(words.count("all"), words.count("barred")), 100)

    def test_just_if_they_tell_all_by_the_rule_turned_about(self):
        for kind, rule in kinds_and_rules():
            turned = tuple(-offset for offset in reversed(rule))
            for size in (1, 5, 12, 16):
                for places in [(0,), (size - 1,), (0, size // 2) if size > 1 else (0,), tuple(range(size))]:
                    told, by_turned = steers_all(kind, rule, size, places), tells_all(kind, turned, size, places)
                    self.assertEqual(told[0] == "all", by_turned[0] == "all")
                    if told[0] == "all":
                        self.assertEqual(told, by_turned)
                    else:
                        self.assertIs(shows_tells_all(kind, turned, size, places, ("unseen", told[1])), True)
                        self.assertIs(shows_steers_all(kind, rule, size, places, ("barred", by_turned[1])), True)
                    self.assertIs(shows_steers_all(kind, rule, size, places, told), True)

    def test_sixteen_lamps(self):
        self.assertEqual(steers_all("walls", (-1, 1), 16, (15,)), ("all", 16))
        self.assertEqual(steers_all("ring", (1,), 16, (5, 13)), ("all", 8))
        self.assertEqual(steers_all("ring", (0,), 16, tuple(range(16))), ("all", 1))
        self.assertEqual(steers_all("ring", (0,), 16, tuple(range(15))), ("barred", "0" * 15 + "1"))

    def test_shows(self):
        for case in [("ring", (-1, 1), 3, (0,)), ("walls", (-1, 1), 4, (3,)), ("ring", (0,), 3, (0, 2)),
                     ("ring", (-6, 1), 2, (1,)), ("ring", (0,), 1, (0,)), ("ring", (0,), 2, (0, 1))]:
            values = [("all", beats) for beats in range(6)] + [("barred", row) for row in all_rows(case[2])]
            check_shows(self, shows_steers_all, case, right_steers, values)

    def test_refusals(self):
        good = {"kind": "walls", "rule": (-1, 1), "size": 4, "places": (0, 3)}
        wrongs = FIRST + [("size", BadSize, NO_SIZES), ("places", BadPlaces, NO_PLACES_IN_4)]
        check_refusals(self, steers_all, good, wrongs)
        check_refusals(self, shows_steers_all, {**good, "value": None}, wrongs)


if __name__ == "__main__":
    unittest.main()
