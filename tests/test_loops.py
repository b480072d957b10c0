import unittest
from math import lcm

from beatlamps.errors import BadKind, BadRow, BadRule, BadSize, NotEven, OtherSize, TooLong
from beatlamps.loops import comes_to, loops, period, periods, tail, tails
from beatlamps.rules import turned
from tests.helper import EVEN_RULES, NO_KINDS, NO_ROW_SIZES, NO_ROWS, NO_RULES, UNEVEN, all_rows, caught
from tests.helper import check_refusals, check_refused, kinds_and_rules, slow_beat, slow_long_after, slow_orbit
from tests.helper import slow_sum, slow_unfolded
from tests.test_gardens import wrongs

SMALL = [(kind, rule, size) for kind, rule in kinds_and_rules() for size in range(1, 6)]
SMALL = SMALL + [("walls", rule, size) for rule in EVEN_RULES[::5] for size in range(1, 6)]
GREAT_ROWS = ["1" + "0" * 23, "110100100010000100000101", "1" * 24, "10" * 12, "01101" * 3, "1" + "0" * 16, "0" * 24]


def primes(number):
    return [by for by in range(2, number + 1) if number % by == 0 and all(by % less for less in range(2, by))]


def next_rows(kind, rule, size):
    """What a beat makes of each row, rows being integers: by sums of what it makes of the rows with one lamp on."""
    alone = [int(slow_beat(kind, rule, f"{1 << at:0{size}b}"), 2) for at in range(size)]
    made = [0] * (1 << size)
    for row in range(1, 1 << size):
        made[row] = made[row & row - 1] ^ alone[(row & -row).bit_length() - 1]
    return made


def slow_loops(made):
    """The loops that are found by walking from each row until one comes again."""
    seen, found = {}, {}
    for start in range(len(made)):
        row, steps = start, 0
        while row not in seen:
            seen[row] = (start, steps)
            row, steps = made[row], steps + 1
        if seen[row][0] == start:
            around = steps - seen[row][1]
            found[around] = found.get(around, 0) + 1
            seen[start] = (None, 0)
    return tuple(sorted(found.items()))


class Tails(unittest.TestCase):
    def test_refusals(self):
        for kind in ("ring", "walls"):
            good = {"kind": kind, "rule": (-6, 0, 6)}
            for function in (tail, period):
                check_refusals(self, function, {**good, "row": "1" * 24}, wrongs(kind, "row"))
            for function in (tails, periods):
                check_refusals(self, function, {**good, "size": 24}, wrongs(kind, "size"))

    def test_all_small_rows(self):
        for kind, rule, size in SMALL:
            greatest, together = 0, 1
            for row in all_rows(size):
                rows, ahead = slow_orbit(kind, rule, row)
                self.assertEqual(tail(kind, rule, row), ahead)
                self.assertEqual(period(kind, rule, row), len(rows) - ahead)
                greatest, together = max(greatest, ahead), lcm(together, len(rows) - ahead)
            self.assertEqual(tails(kind, rule, size), greatest)
            self.assertEqual(periods(kind, rule, size), together)

    def test_great_rows(self):
        for kind, rule in kinds_and_rules():
            for row in GREAT_ROWS:
                ahead, around = tail(kind, rule, row), period(kind, rule, row)
                first = slow_long_after(kind, rule, row, ahead)
                self.assertEqual(slow_long_after(kind, rule, first, around), first)
                for prime in primes(around) if around < 3000 else (3, 5, 7, 11, 13):
                    if around % prime == 0:
                        self.assertNotEqual(slow_long_after(kind, rule, first, around // prime), first)
                if ahead:
                    before = slow_long_after(kind, rule, row, ahead - 1)
                    self.assertNotEqual(slow_long_after(kind, rule, before, around), before)

    def test_all_rows_of_great_sizes(self):
        for kind, rule in kinds_and_rules():
            for size in (16, 17, 24):
                alone = ["0" * at + "1" + "0" * (size - at - 1) for at in range(size)]
                self.assertEqual(tails(kind, rule, size), max(tail(kind, rule, row) for row in alone))
                self.assertEqual(periods(kind, rule, size), lcm(*[period(kind, rule, row) for row in alone]))

    def test_edges(self):
        for kind, rule in kinds_and_rules():
            for size in (1, 16, 17, 24):
                self.assertEqual((tail(kind, rule, "0" * size), period(kind, rule, "0" * size)), (0, 1))
        for size in (1, 16, 17, 24):
            for kind in ("ring", "walls"):
                self.assertEqual((tails(kind, (0,), size), periods(kind, (0,), size)), (0, 1))
            self.assertEqual((tails("ring", (1,), size), periods("ring", (1,), size)), (0, size))
        self.assertEqual((tail("ring", (-1, 1), "1"), period("ring", (-1, 1), "1")), (1, 1))
        self.assertEqual((tails("ring", (-1, 1), 16), periods("ring", (-1, 1), 16)), (8, 1))
        self.assertEqual((tails("walls", (-1, 1), 15), periods("walls", (-1, 1), 15)), (15, 1))
        self.assertEqual(periods("ring", (0, 1), 19), 9709)

    def test_sums(self):
        for kind, rule in kinds_and_rules():
            for one, other in (GREAT_ROWS[:2], GREAT_ROWS[1:3], GREAT_ROWS[2:4]):
                both = slow_sum(one, other)
                self.assertLessEqual(tail(kind, rule, both), max(tail(kind, rule, one), tail(kind, rule, other)))
                together = lcm(period(kind, rule, one), period(kind, rule, other))
                self.assertEqual(together % period(kind, rule, both), 0)

    def test_repeated_unfolded_and_turned_rows(self):
        for kind, rule in kinds_and_rules():
            for row in ("1", "10", "110", "01101", "00010", "011010"):
                right = tail(kind, rule, row), period(kind, rule, row)
                there = ("ring", rule, row * 4 if kind == "ring" else slow_unfolded(row))
                self.assertEqual((tail(*there), period(*there)), right)
                there = (kind, turned(rule), row[::-1])
                self.assertEqual((tail(*there), period(*there)), right)
                if kind == "ring":
                    there = (kind, rule, row[2:] + row[:2])
                    self.assertEqual((tail(*there), period(*there)), right)


class Loops(unittest.TestCase):
    def test_refusals(self):
        for kind in ("ring", "walls"):
            good = {"kind": kind, "rule": (-6, 0, 6), "size": 16}
            check_refusals(self, loops, good, wrongs(kind, "size") + [("size", TooLong, [17, 18, 23, 24], 16)])

    def test_all_small_sizes(self):
        for kind, rule, size in SMALL:
            self.assertEqual(loops(kind, rule, size), slow_loops(next_rows(kind, rule, size)))

    def test_greater_sizes(self):
        for kind, rule in kinds_and_rules():
            for size in (7, 9, 10):
                self.assertEqual(loops(kind, rule, size), slow_loops(next_rows(kind, rule, size)))

    def test_size_16(self):
        for kind, rule in (("ring", (0, 1, 2)), ("walls", (-1, 1)), ("ring", (-6, -3, 1, 5)), ("walls", (-3, 0, 3))):
            for size in (13, 15, 16):
                self.assertEqual(loops(kind, rule, size), slow_loops(next_rows(kind, rule, size)))

    def test_edges(self):
        self.assertEqual(loops("ring", (0,), 1), ((1, 2),))
        self.assertEqual(loops("ring", (-1, 1), 1), ((1, 1),))
        self.assertEqual(loops("ring", (-1, 1), 16), ((1, 1),))
        self.assertEqual(loops("walls", (0,), 16), ((1, 65536),))
        self.assertEqual(loops("ring", (1,), 4), ((1, 2), (2, 1), (4, 3)))

    def test_turned_about(self):
        for kind, rule in kinds_and_rules():
            for size in (8, 11, 16):
                self.assertEqual(loops(kind, turned(rule), size), loops(kind, rule, size))


class ComesTo(unittest.TestCase):
    def test_refusals(self):
        for kind in ("ring", "walls"):
            for size in (3, 24):
                row = ("1" + "0" * 23)[:size]
                uneven = [("rule", NotEven, UNEVEN)] if kind == "walls" else []
                right = [("kind", BadKind, NO_KINDS), ("rule", BadRule, NO_RULES)] + uneven
                right = right + [("one", BadRow, NO_ROWS), ("other", BadRow, NO_ROWS),
                                 ("other", OtherSize, ["1", "11", row + "0" if size < 24 else row[1:]])]
                check_refusals(self, comes_to, {"kind": kind, "rule": (-6, 0, 6), "one": row, "other": row}, right)

    def test_too_long(self):
        # The tail and the period are 4095, 4096, 4161 and 4162 together.
        going = "1" + "0" * 12
        self.assertEqual((tail("ring", (0, 1, 3), going), period("ring", (0, 1, 3), going)), (0, 4095))
        self.assertEqual((tail("ring", (0, 1, 3, 5), going), period("ring", (0, 1, 3, 5), going)), (1, 4095))
        for rule, most in (((0, 1, 3), 4094), ((0, 1, 3, 5), 4095)):
            last = slow_long_after("ring", rule, going, most)
            self.assertEqual(comes_to("ring", rule, going, last), most)
            self.assertEqual(comes_to("ring", rule, going, going), 0)
            self.assertIsNone(comes_to("ring", rule, going, "0" * 13))
        going = "1" + "0" * 18
        for rule in ((0, 1, 2, 3, 5), (-6, -5, -3, -1, 0, 1, 4, 6), (0, 1), (-1, 2, 6)):
            self.assertGreater(tail("ring", rule, going) + period("ring", rule, going), 4096)
            for other in (going, slow_beat("ring", rule, going), "0" * 19, "1" * 19):
                good = {"kind": "ring", "rule": rule, "one": going, "other": other}
                check_refused(self, comes_to, good, TooLong, 4096)
                self.assertEqual(comes_to("ring", rule, "0" * 19, other), 0 if other == "0" * 19 else None)
            error = caught(comes_to, "ring", rule, going, "1" * 18)
            self.assertIs(error.__class__, OtherSize)

    def test_all_small_rows(self):
        for kind, rule, size in SMALL:
            if size < 5 or rule in EVEN_RULES[::10]:
                for one in all_rows(size):
                    rows, _ = slow_orbit(kind, rule, one)
                    for other in all_rows(size):
                        right = rows.index(other) if other in rows else None
                        self.assertEqual(comes_to(kind, rule, one, other), right)

    def test_great_rows(self):
        for kind, rule in kinds_and_rules():
            for row in GREAT_ROWS:
                most = tail(kind, rule, row) + period(kind, rule, row)
                if most <= 300:
                    rows, _ = slow_orbit(kind, rule, row)
                    self.assertEqual(len(rows), most)
                    for beats in (0, 1, 2, most // 2, most - 1):
                        if beats < most:
                            self.assertEqual(comes_to(kind, rule, row, rows[beats]), beats)
                    for other in GREAT_ROWS:
                        if len(other) == len(row) and other not in rows:
                            self.assertIsNone(comes_to(kind, rule, row, other))

    def test_sizes(self):
        error = caught(loops, "ring", (0,), 25)
        self.assertEqual((error.__class__, error.value), (BadSize, 25))
        self.assertTrue(all(caught(tails, "ring", (0,), size) for size in NO_ROW_SIZES))


if __name__ == "__main__":
    unittest.main()
