import random
import unittest
from itertools import combinations
from math import gcd

from beatlamps.errors import BadKind, BadPlaces, BadRule, BadSize, NotEven, TooLong
from beatlamps.places import bar, fewest_places, hidden_between, shows_bar, shows_fewest_places, shows_tells_all, tells_all
from tests.helper import NO_INTEGERS, NO_KINDS, NO_LOTS_OF_PLACES, NO_PLACES_IN_4, NO_RULES, NO_SIZES_30, RULES, SOME_EVEN
from tests.helper import UNEVEN, all_places, all_polynomials, all_rows, caught, check_refusals, check_shows, is_lot_below
from tests.helper import is_text_row, kinds_and_rules, slow_after, slow_beat, slow_factors, slow_sum, slow_unseen

NO_SIZES = NO_INTEGERS + [0, -1, 17, 18, 24, 10 ** 30]
WRONGS = [("kind", BadKind, NO_KINDS), ("rule", BadRule, NO_RULES), ("rule", NotEven, UNEVEN), ("size", BadSize, NO_SIZES)]
SOME = kinds_and_rules(RULES[::2] + [(0, 1)], SOME_EVEN[::2] + [(-1, 1)])


def slow_tells(kind, rule, size, places):
    """The least number of beats below which no two rows are seen alike, None if two always are."""
    if slow_unseen(kind, rule, size, places):
        return None
    seen = {row: () for row in all_rows(size)}
    going = {row: row for row in all_rows(size)}
    for beats in range(1, 40):
        seen = {row: told + tuple(going[row][place] for place in places) for row, told in seen.items()}
        if len(set(seen.values())) == len(seen):
            return beats
        going = {row: slow_beat(kind, rule, other) for row, other in going.items()}


def right_tells(kind, rule, size, places, value):
    if not isinstance(value, tuple) or len(value) != 2:
        return False
    beats = slow_tells(kind, rule, size, places)
    if value[0] == "all":
        return value[1].__class__ is int and value[1] == beats
    return value[0] == "unseen" and is_text_row(value[1], size) and value[1] in slow_unseen(kind, rule, size, places)


class TellsAll(unittest.TestCase):
    def test_all_rows_gone_through(self):
        words = []
        for kind, rule in SOME:
            for size in range(1, 6):
                for places in all_places(size)[::1 if size < 5 else 4]:
                    told = tells_all(kind, rule, size, places)
                    words.append(told[0])
                    self.assertTrue(right_tells(kind, rule, size, places, told), (kind, rule, size, places, told))
        self.assertGreater(min(words.count("all"), words.count("unseen")), 200)

    def test_what_is_seen_at_first_counts(self):
        for kind, rule in kinds_and_rules():
            for size in (1, 2, 7, 16):
                self.assertEqual(tells_all(kind, rule, size, tuple(range(size))), ("all", 1))

    def test_shows(self):
        for kind, rule, size, places in [("ring", (-1, 1), 3, (0,)), ("walls", (-1, 1), 3, (1,)), ("walls", (-1, 1), 4, (3,)),
                                         ("ring", (0,), 4, (0, 2)), ("ring", (-6, 1), 4, (1,)), ("ring", (0,), 1, (0,)),
                                         ("ring", (0,), 3, (0, 1, 2))]:
            values = [("all", beats) for beats in range(6)] + [("unseen", row) for row in all_rows(size)]
            check_shows(self, shows_tells_all, (kind, rule, size, places), right_tells, values)

    def test_shows_other_rows(self):
        taken = [row for row in all_rows(4) if shows_tells_all("ring", (0,), 4, (0, 2), ("unseen", row))]
        self.assertEqual(taken, ["0001", "0100", "0101"])
        self.assertIs(shows_tells_all("ring", (-1, 1), 3, (0, 1), ("all", 2)), True)
        self.assertIs(shows_tells_all("ring", (-1, 1), 3, (0, 1), ("all", 3)), False)

    def test_sixteen_lamps(self):
        self.assertEqual(tells_all("walls", (-1, 1), 16, (0,)), ("all", 16))
        self.assertEqual(tells_all("ring", (1,), 16, (5,)), ("all", 16))
        self.assertEqual(tells_all("ring", (1,), 16, (0, 8)), ("all", 8))
        told = tells_all("walls", (-1, 1), 15, (7,))
        self.assertEqual(told[0], "unseen")
        self.assertIs(shows_tells_all("walls", (-1, 1), 15, (7,), ("unseen", "100000000000001")), True)
        self.assertIs(shows_tells_all("walls", (-1, 1), 15, (7,), ("unseen", "110000000000001")), False)
        for kind, rule in kinds_and_rules():
            told = tells_all(kind, rule, 16, (0, 3))
            self.assertIs(shows_tells_all(kind, rule, 16, (0, 3), told), True)
            if told[0] == "unseen":
                for beats in range(20):
                    row = slow_after(kind, rule, told[1], beats)
                    self.assertEqual(row[0] + row[3], "00")

    def test_refusals(self):
        wrongs = WRONGS + [("places", BadPlaces, NO_PLACES_IN_4)]
        good = {"kind": "walls", "rule": (-1, 1), "size": 4, "places": (0, 3)}
        check_refusals(self, tells_all, good, wrongs)
        check_refusals(self, shows_tells_all, {**good, "value": None}, wrongs)


def right_fewest(kind, rule, size, value):
    if not isinstance(value, tuple) or len(value) != 2:
        return False
    places, reasons = value
    if not is_lot_below(places, size) or places == () or slow_unseen(kind, rule, size, places):
        return False
    lots = list(combinations(range(size), len(places) - 1))
    if not isinstance(reasons, tuple) or len(reasons) != len(lots):
        return False
    for lot, reason in zip(lots, reasons):
        if not isinstance(reason, tuple) or len(reason) != 2 or not is_lot_below(reason[0], size) or reason[0] != lot:
            return False
        if not is_text_row(reason[1], size) or reason[1] not in slow_unseen(kind, rule, size, lot):
            return False
    return True


class FewestPlaces(unittest.TestCase):
    def test_all_lots_gone_through(self):
        found = []
        for kind, rule in SOME:
            for size in range(1, 6):
                told = fewest_places(kind, rule, size)
                self.assertTrue(right_fewest(kind, rule, size, told), (kind, rule, size, told))
                self.assertIs(shows_fewest_places(kind, rule, size, told), True)
                found.append(len(told[0]))
        self.assertLessEqual({1, 2, 3, 4, 5}, set(found))

    def test_ten_lamps(self):
        told = fewest_places("ring", (0,), 10)
        self.assertEqual(told[0], tuple(range(10)))
        self.assertEqual(told[1], tuple((lot, "".join(str(int(at not in lot)) for at in range(10))) for lot in
                                        combinations(range(10), 9)))
        self.assertEqual(fewest_places("ring", (1,), 10), ((0,), (((), told[1][0][1][::-1]),)))
        for kind, rule in kinds_and_rules():
            told = fewest_places(kind, rule, 10)
            self.assertIs(shows_fewest_places(kind, rule, 10, told), True)
            self.assertEqual([lot for lot, _ in told[1]], list(combinations(range(10), len(told[0]) - 1)))
            self.assertGreaterEqual(len(told[0]), bar(kind, rule, 10)[0])

    def test_shows(self):
        for kind, rule, size in [("ring", (-1, 1), 3), ("walls", (-1, 1), 2), ("ring", (0,), 2), ("ring", (1,), 3),
                                 ("walls", (-1, 1), 3), ("ring", (-2, 2), 4)]:
            places, reasons = fewest_places(kind, rule, size)
            values = [(lot, reasons) for lot in [()] + all_places(size)]
            for row in all_rows(size):
                values += [(places, reasons[:at] + ((lot, row),) + reasons[at + 1:]) for at, (lot, _) in enumerate(reasons)]
            check_shows(self, shows_fewest_places, (kind, rule, size), right_fewest, values)

    def test_shows_other_results(self):
        for places in all_places(3):
            told = (places, (((0,), "011"), ((1,), "101"), ((2,), "110")))
            self.assertIs(shows_fewest_places("ring", (-1, 1), 3, told), len(places) == 2)
        for row in all_rows(3):
            self.assertIs(shows_fewest_places("ring", (1,), 3, ((2,), (((), row),))), row != "000")
        self.assertIs(shows_fewest_places("ring", (1,), 3, ((2,), ())), False)

    def test_refusals(self):
        wrongs = WRONGS + [("size", TooLong, [11, 12, 13, 14, 15, 16], 10)]
        good = {"kind": "walls", "rule": (-1, 1), "size": 10}
        check_refusals(self, fewest_places, good, wrongs)
        check_refusals(self, shows_fewest_places, {**good, "value": None}, wrongs)


def slow_darkened(kind, rule, size, powers):
    """How many rows are dark, if these numbers of beats are taken together, as a power of two."""
    count = 0
    for row in all_rows(size):
        total = "0" * size
        for beats in powers:
            total = slow_sum(total, slow_after(kind, rule, row, beats))
        count += "1" not in total
    return count.bit_length() - 1


def slow_bars(kind, rule, size):
    for powers in all_polynomials(size)[1:]:
        if slow_darkened(kind, rule, size, powers) == size:
            return [(slow_darkened(kind, rule, size, factor) // factor[-1], factor) for factor, _ in slow_factors(powers)]


class Bar(unittest.TestCase):
    def test_all_factors_gone_through(self):
        numbers = []
        for kind, rule in SOME:
            for size in range(1, 5):
                bars = slow_bars(kind, rule, size)
                most = max(number for number, _ in bars)
                numbers.append(most)
                self.assertIn(bar(kind, rule, size), [told for told in bars if told[0] == most], (kind, rule, size))
                for number, factor in bars:
                    self.assertIs(shows_bar(kind, rule, size, (number, factor)), number == most)
                self.assertLessEqual(most, len(fewest_places(kind, rule, size)[0]))
        self.assertLessEqual({1, 2, 3, 4}, set(numbers))

    def test_sixteen_lamps(self):
        self.assertEqual(bar("ring", (0,), 16), (16, (0, 1)))
        self.assertEqual(bar("ring", (-1, 1), 16), (2, (1,)))
        self.assertEqual(bar("walls", (-1, 1), 16)[0], 1)
        self.assertEqual(bar("ring", (-1, 0, 1), 15)[0], 2)
        for kind, rule in kinds_and_rules():
            for size in (15, 16):
                self.assertIs(shows_bar(kind, rule, size, bar(kind, rule, size)), True)

    def test_shows(self):
        for kind, rule, size in [("ring", (-1, 1), 3), ("walls", (-1, 1), 2), ("ring", (0,), 2), ("ring", (0, 1), 4),
                                 ("ring", (1,), 3)]:
            bars = slow_bars(kind, rule, size)
            right = [told for told in bars if told[0] == max(bars)[0]]

            def right_bar(kind, rule, size, value):
                return repr(value) in [repr(told) for told in right]

            check_shows(self, shows_bar, (kind, rule, size), right_bar, bars + [(number, (0, 1, 2)) for number in range(4)])

    def test_shows_another_factor(self):
        self.assertEqual(slow_bars("ring", (1,), 3), [(1, (0, 1)), (1, (0, 1, 2))])
        self.assertIs(shows_bar("ring", (1,), 3, (1, (0, 1))), True)
        self.assertIs(shows_bar("ring", (1,), 3, (1, (0, 1, 2))), True)
        self.assertIs(shows_bar("ring", (1,), 3, (1, (1,))), False)
        self.assertIs(shows_bar("ring", (-1, 1), 3, (2, (0, 1))), True)
        self.assertIs(shows_bar("ring", (-1, 1), 3, (1, (1,))), False)

    def test_refusals(self):
        good = {"kind": "walls", "rule": (-1, 1), "size": 16}
        check_refusals(self, bar, good, WRONGS)
        check_refusals(self, shows_bar, {**good, "value": None}, WRONGS)


class HiddenBetween(unittest.TestCase):
    def test_all_rows_gone_through(self):
        for size in range(1, 8):
            for places in all_places(size):
                unseen = slow_unseen("walls", (-1, 1), size, places)
                self.assertEqual(2 ** hidden_between(places, size), len(unseen) + 1, (places, size))
                self.assertEqual(hidden_between(places, size) == 0, tells_all("walls", (-1, 1), size, places)[0] == "all")

    def test_greater_rows(self):
        for size in range(8, 17):
            for places in [(0,), (size - 1,), (size // 2,), (1, 5), (2, 5), (3, 7), (1, 2, 4)]:
                told = tells_all("walls", (-1, 1), size, places)[0] == "all"
                self.assertEqual(hidden_between(places, size) == 0, told)

    def test_sizes_of_thirty_figures(self):
        chance = random.Random(20)
        self.assertEqual(hidden_between((10 ** 30 - 1,), 10 ** 30), 0)
        self.assertEqual(hidden_between((5 * 10 ** 29 - 1,), 10 ** 30 - 1), 5 * 10 ** 29 - 1)
        self.assertEqual(hidden_between((9, 5 * 10 ** 29 - 1), 10 ** 30 - 1), 9)
        self.assertEqual(hidden_between((0,), 1), 0)
        for _ in range(50):
            size = chance.randrange(1, 10 ** 30) // 720720 * 720720 + 720719
            places = tuple(sorted({chance.randrange(size // 5040) * 5040 + 5039 for _ in range(8)}))
            self.assertEqual(hidden_between(places, size), gcd(size + 1, *[place + 1 for place in places]) - 1)

    def test_eight_places(self):
        self.assertEqual(hidden_between(tuple(range(1, 17, 2)), 17), 1)
        self.assertEqual(hidden_between(tuple(range(8)), 8), 0)

    def test_refusals(self):
        nine = [tuple(range(9)), tuple(range(0, 18, 2)), tuple(range(20))]
        no_places = NO_LOTS_OF_PLACES + [(), (-1,), (-1, 0), (20,), (0, 20), (10 ** 30,), (3, 3), (5, 4)] + nine
        good = {"places": (0, 19), "size": 20}
        check_refusals(self, hidden_between, good, [("size", BadSize, NO_SIZES_30), ("places", BadPlaces, no_places)])
        self.assertEqual(caught(hidden_between, (10 ** 30,), 10 ** 30).value, (10 ** 30,))
        self.assertEqual(caught(hidden_between, "x", 0).value, 0)


if __name__ == "__main__":
    unittest.main()
