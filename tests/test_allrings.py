import unittest
from math import gcd, lcm

from beatlamps.allrings import first_lost, kept, losing, lost_at, most_lost
from beatlamps.errors import BadNumber, BadRule, BadSize
from beatlamps.gardens import lost
from beatlamps.rules import turned
from tests.helper import NO_NUMBERS, NO_RULES, NO_SIZES_30, RULES, all_polynomials, all_rows, check_refusals, degree
from tests.helper import euclid, slow_factors, slow_measure, slow_ring_beat

POWERS = [one for one in all_polynomials(6) if one and one[0] == 0]
# By these sizes all that a polynomial of degree 6 does comes again.
MANY = 130
SIZES_30 = [10 ** 30, 10 ** 30 - 1, 3 * 10 ** 29, 2 ** 99, 3 * 2 ** 90, 7 * 31 * 2 ** 70, 63 * 127 * 2 ** 40, 5 ** 40,
            21 * 10 ** 28, 4095 * 10 ** 26]


def powers_of(rule):
    return tuple(offset - rule[0] for offset in rule)


def slow_lost(powers, size):
    return degree(euclid(powers, (0, size)))


def slow_losts(powers):
    """What is lost on the rings of all sizes below MANY; of size 0, that there is none."""
    return [0] + [slow_lost(powers, size) for size in range(1, MANY)]


def rules_of(powers):
    """Some rules that have this polynomial."""
    return [tuple(at + least for at in powers) for least in (-6, -3, 0)]


class AllRings(unittest.TestCase):
    @classmethod
    def setUpClass(cls):
        cls.losts = {powers: slow_losts(powers) for powers in POWERS}

    def test_refusals(self):
        rule = ("rule", BadRule, NO_RULES)
        good = {"rule": (-6, 0, 1)}
        check_refusals(self, losing, good, [rule])
        check_refusals(self, most_lost, good, [rule])
        for size in (1, 10 ** 30):
            check_refusals(self, lost_at, {**good, "size": size}, [rule, ("size", BadSize, NO_SIZES_30)])
            check_refusals(self, kept, {**good, "bound": size}, [rule, ("bound", BadSize, NO_SIZES_30)])
        for many in (1, 12):
            check_refusals(self, first_lost, {**good, "many": many}, [rule, ("many", BadNumber, NO_NUMBERS)])

    def test_lost_at_small_sizes(self):
        for powers, right in self.losts.items():
            for rule in rules_of(powers):
                self.assertEqual([lost_at(rule, size) for size in range(1, 70)], right[1:70])

    def test_lost_at_by_all_rows(self):
        for rule in RULES:
            for size in range(1, 9):
                dark = [row for row in all_rows(size) if "1" not in slow_ring_beat(rule, row)]
                self.assertEqual(2 ** lost_at(rule, size), len(dark))
            for size in range(1, 25):
                self.assertEqual(lost_at(rule, size), lost("ring", rule, size))

    def test_lost_at_sizes_of_thirty_figures(self):
        # x to a size, plus 1, has in common with x to the measure, plus 1, what it has with x to their divisor.
        for powers, right in self.losts.items():
            whole = slow_measure(powers)
            for size in SIZES_30:
                self.assertEqual(lost_at(powers, size), right[gcd(whole, size)])

    def test_losing(self):
        for powers, right in self.losts.items():
            for rule in rules_of(powers):
                sizes = losing(rule)
                self.assertEqual(sizes, tuple(sorted(set(sizes))))
                self.assertFalse([size for size in sizes for other in sizes if size != other and size % other == 0])
                for size in range(1, MANY):
                    self.assertIs(any(size % least == 0 for least in sizes), right[size] > 0)

    def test_first_lost(self):
        for powers, right in self.losts.items():
            for rule in rules_of(powers):
                for many in range(1, 13):
                    sizes = [size for size in range(1, MANY) if right[size] >= many]
                    self.assertEqual(first_lost(rule, many), sizes[0] if sizes else None)

    def test_most_lost(self):
        for powers, right in self.losts.items():
            for rule in rules_of(powers):
                self.assertEqual(most_lost(rule), (max(right), max(right.index(max(right)), 1)))

    def test_kept(self):
        for powers, right in self.losts.items():
            for bound in (1, 2, 3, 20, 64, MANY - 1):
                self.assertEqual(kept(powers, bound), right[1:bound + 1].count(0))

    def test_kept_of_thirty_figures(self):
        for powers, right in self.losts.items():
            whole = lcm(*losing(powers))
            for bound in (10 ** 30, 10 ** 30 - 1, 2 ** 99):
                told = [right[gcd(slow_measure(powers), size)] for size in range(1, whole + 1)]
                rest = told[:bound % whole].count(0)
                self.assertEqual(kept(powers, bound), bound // whole * told.count(0) + rest)

    def test_great_rules(self):
        great = [(-6, -5, -2, 0, 6), (-6, 6), (-6, 0, 6), tuple(range(-6, 7)), (-6, -5, 6), (-6, -4, -2, 0, 2, 4, 6),
                 (-6, -5, -3, -1, 0, 4, 6), (-6, -2, 2, 6)]
        for rule in great + RULES:
            powers = powers_of(rule)
            parts = [(part[-1], times, slow_measure(part)) for part, times in slow_factors(powers)] \
                if degree(powers) <= 8 else None
            most, size = most_lost(rule)
            self.assertEqual((most, size), (degree(powers), slow_measure(powers)))
            for less in range(1, size):
                if size % less == 0:
                    self.assertLess(lost_at(rule, less), most or 1)
            if parts is not None:
                for size in SIZES_30:
                    right = sum(high * min(times, size & -size) for high, times, alone in parts if size % alone == 0)
                    self.assertEqual(lost_at(rule, size), right)
            for many in range(1, 13):
                first = first_lost(rule, many)
                if first is None:
                    self.assertLess(most, many)
                else:
                    self.assertGreaterEqual(slow_lost(powers, first), many)
                    self.assertEqual(first, min(size for size in range(1, first + 1) if first % size == 0
                                                and slow_lost(powers, size) >= many))
                    for size in range(1, min(first, 100)):
                        self.assertLess(slow_lost(powers, size), many)

    def test_edges(self):
        for rule in ((0,), (1,), (-6,), (6,)):
            self.assertEqual((losing(rule), most_lost(rule), first_lost(rule, 1)), ((), (0, 1), None))
            self.assertEqual([kept(rule, bound) for bound in (1, 2, 10 ** 30)], [1, 2, 10 ** 30])
            self.assertEqual([lost_at(rule, size) for size in (1, 2, 10 ** 30)], [0, 0, 0])
        self.assertEqual([kept((0, 1), bound) for bound in (1, 2, 10 ** 30)], [0, 0, 0])
        self.assertEqual((losing((0, 1)), most_lost((0, 1))), ((1,), (1, 1)))
        self.assertEqual([first_lost((-6, 6), many) for many in (1, 2, 4, 5, 8, 9, 12)], [1, 2, 4, 6, 12, 12, 12])
        self.assertEqual((most_lost((-6, 6)), losing((-6, 6))), ((12, 12), (1,)))
        self.assertEqual((losing((0, 1, 4)), most_lost((0, 1, 4))), ((15,), (4, 15)))

    def test_squares(self):
        for powers in all_polynomials(3):
            if powers and powers[0] == 0:
                squared = tuple(2 * at for at in powers)
                self.assertEqual(losing(squared), losing(powers))
                most, size = most_lost(powers)
                self.assertEqual(most_lost(squared), (2 * most, 2 * size if most else 1))
                for size in [5 * 10 ** 29, 2 ** 98, 3 * 2 ** 90, 7 * 31 * 2 ** 70, 5 ** 40, 1, 2, 3, 6, 14]:
                    self.assertEqual(lost_at(squared, 2 * size), 2 * lost_at(powers, size))

    def test_turned_about(self):
        for rule in RULES:
            about = turned(rule)
            self.assertEqual((losing(about), most_lost(about)), (losing(rule), most_lost(rule)))
            self.assertEqual(kept(about, 10 ** 30), kept(rule, 10 ** 30))
            for size in SIZES_30:
                self.assertEqual(lost_at(about, size), lost_at(rule, size))
            for many in (1, 4, 12):
                self.assertEqual(first_lost(about, many), first_lost(rule, many))


if __name__ == "__main__":
    unittest.main()
