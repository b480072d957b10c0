import unittest
from math import gcd

from beatlamps.allrings import lost_at
from beatlamps.errors import BadMiddle, BadSize
from beatlamps.floors import floor_lost
from beatlamps.tubes import tube_lost_at, tube_rule
from tests.helper import NO_INTEGERS, NO_MIDDLES, NO_SIZES_30, all_floors, check_refusals, dark_floor, degree, euclid
from tests.helper import odd_ones, single_floors, slow_measure, slow_pressed, slow_rank, slow_wall_polynomial

NO_HEIGHTS = NO_INTEGERS + [0, -1, 7, 8, 12, 24, 10 ** 30]
TUBES = [(middle, high) for middle in (False, True) for high in range(1, 7)]
SIZES_30 = [10 ** 30, 10 ** 30 - 1, 3 * 10 ** 29, 2 ** 99, 63 * 127 * 2 ** 40, 5 ** 40, 7 * 31 * 2 ** 70]


def slow_rule(middle, high):
    """So many beats by the cross, or by it and the lamp itself, as the powers of the wall polynomial tell."""
    total = ()
    for beats in slow_wall_polynomial(high):
        offsets = (0,)
        for _ in range(beats):
            offsets = odd_ones([at + by for at in offsets for by in ((-1, 0, 1) if middle else (-1, 1))])
        total = odd_ones(total + offsets)
    return total


class Tubes(unittest.TestCase):
    def test_refusals(self):
        first = [("middle", BadMiddle, NO_MIDDLES), ("high", BadSize, NO_HEIGHTS)]
        for high in (1, 6):
            check_refusals(self, tube_rule, {"middle": False, "high": high}, first)
            for size in (1, 10 ** 30):
                check_refusals(self, tube_lost_at, {"middle": True, "high": high, "size": size},
                               first + [("size", BadSize, NO_SIZES_30)])

    def test_rules(self):
        for middle, high in TUBES:
            self.assertEqual(tube_rule(middle, high), slow_rule(middle, high))

    def test_edges(self):
        self.assertEqual([tube_rule(middle, 1) for middle in (False, True)], [(-1, 1), (-1, 0, 1)])
        self.assertEqual([tube_rule(middle, 6)[-1] for middle in (False, True)], [6, 6])
        self.assertEqual([tube_lost_at(False, 1, size) for size in (1, 2, 3, 4, 10 ** 30)], [1, 2, 1, 2, 2])
        self.assertEqual([tube_lost_at(True, 1, size) for size in (1, 2, 3, 4, 10 ** 30)], [0, 0, 2, 0, 0])

    def test_lost_by_all_presses(self):
        for middle, high in TUBES:
            for size in range(1, 10 // high + 1):
                silent = [presses for presses in all_floors(high, size)
                          if slow_pressed("tube", middle, presses) == dark_floor(high, size)]
                self.assertEqual(2 ** tube_lost_at(middle, high, size), len(silent))

    def test_lost_by_rank(self):
        for middle, high in TUBES:
            for size in (3, 7, 10, 12):
                rows = ["".join(slow_pressed("tube", middle, single)) for single in single_floors(high, size)]
                self.assertEqual(tube_lost_at(middle, high, size), high * size - slow_rank(rows))

    def test_lost_on_floors(self):
        for middle, high in TUBES:
            for size in range(1, 9):
                self.assertEqual(tube_lost_at(middle, high, size), floor_lost("tube", middle, high, size))

    def test_lost_at_sizes_of_thirty_figures(self):
        for middle, high in TUBES:
            rule = slow_rule(middle, high)
            powers = tuple(at - rule[0] for at in rule)
            for size in SIZES_30:
                right = degree(euclid(powers, (0, gcd(slow_measure(powers), size))))
                self.assertEqual(tube_lost_at(middle, high, size), right)
                self.assertEqual(lost_at(rule, size), right)


if __name__ == "__main__":
    unittest.main()
