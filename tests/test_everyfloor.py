import unittest
from math import gcd, lcm

from beatlamps.errors import BadMiddle, BadNumber, BadSize
from beatlamps.everyfloor import first_floor, floor_lost_at, kept_floors, losing_floors, most_floor
from beatlamps.floors import floor_lost
from tests.helper import NO_INTEGERS, NO_MIDDLES, NO_NUMBERS, NO_SIZES_30, all_floors, check_refusals, dark_floor, degree
from tests.helper import euclid, powers_of_bits, slow_pressed, slow_wall_polynomial, slow_wall_rests

NO_HEIGHTS = NO_INTEGERS + [0, -1, 13, 24, 10 ** 30]
FLOORS = [(middle, high) for middle in (False, True) for high in range(1, 13)]
MANY = 260
WIDES_30 = [10 ** 30, 10 ** 30 - 1, 2 ** 99 - 1, 3 * 2 ** 90 - 1, 15 * 2 ** 40 * 7 ** 10 - 1, 4095 * 4097 * 10 ** 20 - 1,
            13 * 11 * 9 * 7 * 5 * 2 ** 60 - 1]


def wall_of(middle, high):
    return slow_wall_polynomial(high, (0, 1) if middle else (1,))


def slow_losts(middle, high, many):
    """What floors so high lose, by one more than their width; of 0 and of 1, that there is none."""
    whole = wall_of(middle, high)
    return [0] + [degree(euclid(whole, powers_of_bits(rest))) for rest in slow_wall_rests(whole, many - 1)]


def slow_whole(middle, high):
    """The least number such that the wall polynomial of this height divides that of one less."""
    whole = wall_of(middle, high)
    many = 64
    while 0 not in slow_wall_rests(whole, many):
        many *= 2
    return slow_wall_rests(whole, many).index(0) + 1


class EveryFloor(unittest.TestCase):
    @classmethod
    def setUpClass(cls):
        cls.losts = {floor: slow_losts(*floor, MANY) for floor in FLOORS}

    def test_refusals(self):
        first = [("middle", BadMiddle, NO_MIDDLES), ("high", BadSize, NO_HEIGHTS)]
        for high in (1, 12):
            good = {"middle": True, "high": high}
            check_refusals(self, losing_floors, good, first)
            check_refusals(self, most_floor, good, first)
            for size in (1, 10 ** 30):
                check_refusals(self, floor_lost_at, {**good, "wide": size}, first + [("wide", BadSize, NO_SIZES_30)])
                check_refusals(self, kept_floors, {**good, "bound": size}, first + [("bound", BadSize, NO_SIZES_30)])
            for many in (1, 12):
                check_refusals(self, first_floor, {**good, "many": many}, first + [("many", BadNumber, NO_NUMBERS)])

    def test_lost_at_small_widths(self):
        for (middle, high), right in self.losts.items():
            self.assertEqual([floor_lost_at(middle, high, wide) for wide in range(1, MANY - 1)], right[2:])

    def test_lost_at_by_pressing(self):
        for middle in (False, True):
            for high in range(1, 9):
                for wide in range(1, 9):
                    self.assertEqual(floor_lost_at(middle, high, wide), floor_lost("walls", middle, high, wide))
            for high, wide in ((1, 1), (1, 2), (2, 1), (2, 2), (3, 2), (2, 3), (3, 3), (5, 2), (1, 9), (9, 1)):
                silent = [presses for presses in all_floors(high, wide)
                          if slow_pressed("walls", middle, presses) == dark_floor(high, wide)]
                self.assertEqual(2 ** floor_lost_at(middle, high, wide), len(silent))

    def test_lost_at_widths_of_thirty_figures(self):
        for middle, high in FLOORS:
            whole = slow_whole(middle, high)
            right = slow_losts(middle, high, whole + 1)
            for wide in WIDES_30:
                self.assertEqual(floor_lost_at(middle, high, wide), right[gcd(whole, wide + 1)], (middle, high, wide))

    def test_losing(self):
        for (middle, high), right in self.losts.items():
            numbers = losing_floors(middle, high)
            self.assertEqual(numbers, tuple(sorted(set(numbers))))
            self.assertFalse([one for one in numbers for other in numbers if one != other and one % other == 0])
            self.assertTrue(all(2 <= number for number in numbers))
            for number in range(2, MANY):
                self.assertIs(any(number % least == 0 for least in numbers), right[number] > 0)

    def test_first_floor(self):
        for middle, high in FLOORS:
            right = slow_losts(middle, high, slow_whole(middle, high) + 1)
            for many in range(1, 13):
                wides = [number - 1 for number in range(2, len(right)) if right[number] >= many]
                self.assertEqual(first_floor(middle, high, many), wides[0] if wides else None)

    def test_most_floor(self):
        for middle, high in FLOORS:
            right = slow_losts(middle, high, slow_whole(middle, high) + 1)
            self.assertEqual(most_floor(middle, high), (max(right), right.index(max(right)) - 1))
            self.assertEqual(most_floor(middle, high), (high, slow_whole(middle, high) - 1))

    def test_kept(self):
        for (middle, high), right in self.losts.items():
            for bound in (1, 2, 3, 7, 20, 63, 64, MANY - 2):
                self.assertEqual(kept_floors(middle, high, bound), right[2:bound + 2].count(0))

    def test_kept_of_thirty_figures(self):
        for middle, high in FLOORS:
            around, whole = lcm(*losing_floors(middle, high)), slow_whole(middle, high)
            right = slow_losts(middle, high, whole + 1)
            told = [right[gcd(whole, number)] for number in range(1, around + 1)]
            for bound in (10 ** 30, 10 ** 30 - 1, 2 ** 99):
                many = (bound + 1) // around * told.count(0) + told[:(bound + 1) % around].count(0)
                self.assertEqual(kept_floors(middle, high, bound), many - 1)

    def test_edges(self):
        self.assertEqual([floor_lost_at(middle, 1, 1) for middle in (False, True)], [1, 0])
        self.assertEqual([losing_floors(middle, 1) for middle in (False, True)], [(2,), (3,)])
        self.assertEqual([most_floor(middle, 1) for middle in (False, True)], [(1, 1), (1, 2)])
        self.assertEqual([kept_floors(False, 1, bound) for bound in (1, 2, 3, 10 ** 30)], [0, 1, 1, 5 * 10 ** 29])
        self.assertEqual([first_floor(False, 12, 12), floor_lost_at(False, 12, 12)], [12, 12])
        self.assertEqual([first_floor(True, 11, 12), first_floor(True, 12, 12) is None], [None, False])
        self.assertEqual([most_floor(False, 11), most_floor(True, 7), losing_floors(False, 7)], [(11, 11), (7, 11), (2,)])


if __name__ == "__main__":
    unittest.main()
