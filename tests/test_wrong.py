import random
import unittest
from itertools import combinations

from beatlamps.errors import BadBeats, BadNumber, BadPlace
from beatlamps.looks import Looks
from beatlamps.wrong import believed, least_wrong, shows_believed, shows_least_wrong
from tests.helper import NO_BEATS, NO_INTEGERS, NO_PLACES_OF_4, QUARREL, TEXT, all_rows, caught, check_refusals
from tests.helper import check_shows, is_lot_below, is_text_row, looks_text, right_quarrel, slow_on, slow_wrong, some_looks

NO_MOST = NO_INTEGERS + [-1, 3, 4, 10 ** 30]


def right_least(looks, value):
    if not isinstance(value, tuple) or len(value) != 4:
        return False
    number, lot, start, reasons = value
    wrong = slow_wrong(looks)
    if number.__class__ is not int or number != min(map(len, wrong.values())):
        return False
    if not is_lot_below(lot, len(looks)) or len(lot) != number:
        return False
    if not is_text_row(start, looks.size) or set(wrong[start]) - set(lot) or not isinstance(reasons, tuple):
        return False
    lots = list(combinations(range(len(looks)), number - 1)) if number else []
    if len(reasons) != len(lots):
        return False
    for others, reason in zip(lots, reasons):
        if not isinstance(reason, tuple) or len(reason) != 2:
            return False
        if not is_lot_below(reason[0], len(looks)) or reason[0] != others:
            return False
        if not right_quarrel(looks, reason[1]) or set(reason[1]) & set(others):
            return False
    return True


def quarrelling(chance, many, **named):
    return some_looks(chance, many, right=5, **named) + some_looks(chance, many, right=9, **named)


class LeastWrong(unittest.TestCase):
    def test_all_starts_gone_through(self):
        chance = random.Random(16)
        numbers = []
        for looks in quarrelling(chance, 120) + some_looks(chance, 40, sizes=(1, 2), right=2):
            told = least_wrong(looks)
            self.assertTrue(right_least(looks, told), (looks.text, told))
            self.assertIs(shows_least_wrong(looks, told), True)
            self.assertEqual(least_wrong(Looks(looks.text)), told)
            numbers.append(told[0])
        self.assertLessEqual({0, 1, 2, 3, 4}, set(numbers))

    def test_none_is_wrong(self):
        looks = Looks(TEXT)
        number, lot, start, reasons = least_wrong(looks)
        self.assertEqual((number, lot, reasons), (0, (), ()))
        self.assertEqual(slow_wrong(looks)[start], ())
        none = Looks("kind walls\nsize 2\nrule 0")
        self.assertEqual(least_wrong(none)[:2] + least_wrong(none)[3:], (0, (), ()))

    def test_all_twelve_are_wrong(self):
        looks = Looks(looks_text("ring", (0, 1), 16, [(10 ** 30 - at, at, 1) for at in range(12)]))
        told = least_wrong(looks)
        self.assertEqual(told[:2], (12, tuple(range(12))))
        self.assertEqual(told[3], tuple((lot, tuple(set(range(12)) - set(lot))) for lot in combinations(range(12), 11)))
        self.assertIs(shows_least_wrong(looks, told), True)

    def test_six_of_twelve(self):
        looks = Looks(looks_text("ring", (0,), 16, [(10 ** 30 - at, 15, at % 2) for at in range(12)]))
        told = least_wrong(looks)
        self.assertEqual((told[0], len(told[3])), (6, 792))
        self.assertIn(told[1], [tuple(range(0, 12, 2)), tuple(range(1, 12, 2))])
        for lot in (tuple(range(0, 12, 2)), tuple(range(1, 12, 2)), tuple(range(6))):
            for start in ("0" * 15 + "1", "0" * 16, "1" * 16, "1" * 15 + "0"):
                right = lot[-1] != 5 and (lot[0] == 0) == (start[15] == "1")
                self.assertIs(shows_least_wrong(looks, (6, lot, start, told[3])), right)
        self.assertEqual([others for others, _ in told[3]], list(combinations(range(12), 5)))

    def test_shows(self):
        chance = random.Random(17)
        for looks in quarrelling(chance, 6, sizes=(1, 2), most=4):
            told = least_wrong(looks)
            values = [told] + [(told[0], lot, start, told[3]) for start in all_rows(looks.size)
                               for lot in combinations(range(len(looks)), told[0])]
            values += [(told[0], told[1], told[2], tuple((others, lot) for others, _ in told[3]))
                       for number in range(len(looks) + 1) for lot in combinations(range(len(looks)), number)]
            check_shows(self, shows_least_wrong, (looks,), right_least, values[:12])

    def test_shows_other_results(self):
        looks = Looks(QUARREL)
        reasons = (((), (0, 2)),)
        self.assertIs(shows_least_wrong(looks, (1, (0,), "0000", reasons)), True)
        self.assertIs(shows_least_wrong(looks, (1, (0,), "0101", reasons)), True)
        self.assertIs(shows_least_wrong(looks, (1, (2,), "1101", reasons)), True)
        self.assertIs(shows_least_wrong(looks, (1, (2,), "0101", reasons)), False)
        self.assertIs(shows_least_wrong(looks, (1, (1,), "1101", reasons)), False)
        self.assertIs(shows_least_wrong(looks, (True, (2,), "1101", reasons)), False)
        self.assertIs(shows_least_wrong(looks, (1, (2,), "1101", ())), False)
        self.assertIs(shows_least_wrong(looks, (2, (0, 2), "1101", reasons)), False)
        more = Looks(QUARREL + "\nlook 4 0 0")
        for numbers, right in [((0, 2), True), ((0, 3), True), ((2, 3), False), ((0, 2, 3), False)]:
            self.assertIs(shows_least_wrong(more, (1, (0,), "0000", (((), numbers),))), right)
        two = Looks(QUARREL + "\nlook 4 0 0\nlook 5 0 1")
        told = least_wrong(two)
        self.assertEqual(told[0], 2)
        self.assertEqual([lot for lot, _ in told[3]], [(0,), (1,), (2,), (3,), (4,)])
        self.assertIs(shows_least_wrong(two, told[:3] + (told[3][:2] + (((2,), (0, 2)),) + told[3][3:],)), False)
        self.assertIs(shows_least_wrong(two, told[:3] + (told[3][:2] + (((2,), (3, 4)),) + told[3][3:],)), True)
        self.assertIs(shows_least_wrong(two, told[:3] + (told[3][::-1],)), False)
        for at, others in ((0, (False,)), (1, (True,)), (1, [1]), (1, 1), (1, ()), (1, (1, 1)), (1, (0,)), (1, ("1",))):
            reason = (others, told[3][at][1])
            self.assertIs(shows_least_wrong(two, told[:3] + (told[3][:at] + (reason,) + told[3][at + 1:],)), False)

    def test_refusals(self):
        for text in (TEXT, QUARREL):
            check_refusals(self, least_wrong, {"looks": Looks(text)}, [])
            check_refusals(self, shows_least_wrong, {"looks": Looks(text), "value": None}, [])


def slow_believed(looks, most):
    return [row for row, wrong in slow_wrong(looks).items() if len(wrong) <= most]


def right_believed(looks, most, beat, place, value):
    if not isinstance(value, tuple) or not value:
        return False
    starts, rows = slow_believed(looks, most), all_rows(looks.size)
    on = slow_on(looks.kind, looks.rule, looks.size, beat, place)
    told = {on[rows.index(row)] for row in starts}
    if len(value) == 1:
        return value == ("none",) and told == set()
    if len(value) == 2:
        return value[0] == "surely" and value[1].__class__ is int and told == {value[1] == 1} and value[1] in (0, 1)
    if len(value) != 3 or value[0] != "open" or not all(is_text_row(row, looks.size) for row in value[1:]):
        return False
    return set(value[1:]) <= set(starts) and not on[rows.index(value[1])] and on[rows.index(value[2])]


class Believed(unittest.TestCase):
    def test_all_starts_gone_through(self):
        chance = random.Random(18)
        words = []
        for looks in quarrelling(chance, 60) + some_looks(chance, 40):
            for most in (0, 1, 2):
                for beat in (0, 2, 10 ** 30):
                    for place in range(looks.size):
                        told = believed(looks, most, beat, place)
                        self.assertTrue(right_believed(looks, most, beat, place, told), (looks.text, told))
                        self.assertIs(shows_believed(looks, most, beat, place, told), True)
                        words.append((most, told[0]) + told[1:2 if told[0] == "surely" else 1])
        for most in (0, 1, 2):
            for word in [("none",), ("surely", 0), ("surely", 1), ("open",)]:
                self.assertGreater(words.count((most,) + word), 10, (most, word))

    def test_shows(self):
        chance = random.Random(19)
        for looks in quarrelling(chance, 8, sizes=(1, 2, 3), most=6):
            for most in (0, 1, 2):
                values = [believed(looks, most, 1, 0), ("none",), ("surely", 0), ("surely", 1)]
                values += [("open", one, other) for one in all_rows(looks.size)[:3] for other in all_rows(looks.size)[-3:]]
                check_shows(self, shows_believed, (looks, most, 1, 0), right_believed, values)

    def test_without_looks_and_with_twelve(self):
        looks = Looks("kind walls\nsize 3\nrule -1 1")
        for most in (0, 1, 2):
            self.assertEqual(believed(looks, most, 0, 1)[0], "open")
            self.assertEqual(believed(looks, most, 2, 1), ("surely", 0))
        looks = Looks(looks_text("ring", (0,), 16, [(10 ** 30 - at, 15, int(at < 2)) for at in range(12)]))
        self.assertEqual([believed(looks, most, 10 ** 30, 15) for most in (0, 1, 2)], [("none",), ("none",), ("surely", 0)])
        self.assertEqual(believed(looks, 2, 10 ** 30, 14)[0], "open")
        self.assertIs(shows_believed(looks, 2, 0, 3, ("open", "0" * 16, "0001" + "0" * 12)), True)
        self.assertIs(shows_believed(looks, 2, 0, 3, ("open", "0" * 16, "0001" + "0" * 11 + "1")), False)

    def test_refusals(self):
        wrongs = [("most", BadNumber, NO_MOST), ("beat", BadBeats, NO_BEATS), ("place", BadPlace, NO_PLACES_OF_4)]
        for text in (TEXT, QUARREL):
            good = {"looks": Looks(text), "most": 2, "beat": 10 ** 30, "place": 3}
            check_refusals(self, believed, good, wrongs)
            check_refusals(self, shows_believed, {**good, "value": None}, wrongs)


if __name__ == "__main__":
    unittest.main()
