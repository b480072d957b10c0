import unittest

from beatlamps.chasing import chased, last_row
from beatlamps.errors import BadFloor, BadMiddle, BadRow, BadSize
from beatlamps.rows import after, summed, wall_polynomial
from tests.helper import NO_FLOORS, NO_MIDDLES, NO_ROW_SIZES, NO_ROWS, all_floors, all_rows, check_refusals
from tests.helper import dark_floor, floor_sum, slow_pressed, slow_sum
from tests.test_floors import GREAT, SMALL, picture

ROWS = ["1", "0", "10", "110100100010000100000101", "1" * 24, "0" * 24, "1" + "0" * 23, "0110100", "00010"]


def press(middle, on, at, place):
    """Turn what a press at this place between walls turns, on being lists of lamps."""
    around = [(at - 1, place), (at + 1, place), (at, place - 1), (at, place + 1)] + [(at, place)] * middle
    for there, column in around:
        if 0 <= there < len(on) and 0 <= column < len(on[0]):
            on[there][column] ^= 1


def chase(middle, on):
    """Press, from the second row on, each place below a lamp that is on; the lists of places that are pressed."""
    presses = [[0] * len(on[0]) for _ in on]
    for at in range(1, len(on)):
        presses[at] = list(on[at - 1])
        for place, below in enumerate(presses[at]):
            if below:
                press(middle, on, at, place)
    return presses


def text(row):
    return "".join(map(str, row))


def slow_chased(middle, floor):
    on = [[int(sign) for sign in row] for row in floor]
    presses = chase(middle, on)
    assert not any(map(any, on[:-1]))
    return tuple(map(text, presses)), text(on[-1])


def slow_last_row(middle, high, first):
    on = [[0] * len(first) for _ in range(high)]
    for place, sign in enumerate(first):
        if sign == "1":
            press(middle, on, 0, place)
    chase(middle, on)
    return text(on[-1])


class Chased(unittest.TestCase):
    def test_refusals(self):
        for floor in (("1",), picture(8, 8), picture(1, 8)):
            check_refusals(self, chased, {"middle": True, "floor": floor},
                           [("middle", BadMiddle, NO_MIDDLES), ("floor", BadFloor, NO_FLOORS)])

    def test_all_small_floors(self):
        for middle in (False, True):
            for high, wide in SMALL:
                for floor in all_floors(high, wide):
                    presses, last = chased(middle, floor)
                    self.assertEqual((presses, last), slow_chased(middle, floor))
                    self.assertEqual(presses[0], "0" * wide)
                    left = floor_sum(floor, slow_pressed("walls", middle, presses))
                    self.assertEqual(left, dark_floor(high - 1, wide) + (last,))

    def test_great_floors(self):
        for middle in (False, True):
            for high, wide in GREAT:
                for floor in (picture(high, wide), dark_floor(high, wide), ("1" * wide,) * high, picture(high, wide)[::-1]):
                    self.assertEqual(chased(middle, floor), slow_chased(middle, floor))

    def test_edges(self):
        for middle in (False, True):
            self.assertEqual(chased(middle, ("1",)), (("0",), "1"))
            self.assertEqual(chased(middle, ("10110100",)), (("00000000",), "10110100"))
        self.assertEqual(chased(False, ("1", "0")), (("0", "1"), "0"))
        self.assertEqual(chased(True, ("1", "0")), (("0", "1"), "1"))

    def test_sums(self):
        for middle in (False, True):
            one, other = picture(8, 7), picture(8, 8)[::-1]
            other = tuple(row[1:] for row in other)
            first, second = chased(middle, one), chased(middle, other)
            both = floor_sum(first[0], second[0]), slow_sum(first[1], second[1])
            self.assertEqual(chased(middle, floor_sum(one, other)), both)


class LastRow(unittest.TestCase):
    def test_refusals(self):
        for high in (1, 24):
            for first in ("1", "1" * 24):
                check_refusals(self, last_row, {"middle": False, "high": high, "first": first},
                               [("middle", BadMiddle, NO_MIDDLES), ("high", BadSize, NO_ROW_SIZES),
                                ("first", BadRow, NO_ROWS)])

    def test_all_small_rows(self):
        for middle in (False, True):
            for wide in range(1, 6):
                for first in all_rows(wide):
                    for high in range(1, 8):
                        self.assertEqual(last_row(middle, high, first), slow_last_row(middle, high, first))

    def test_all_heights(self):
        for middle in (False, True):
            for first in ROWS:
                for high in range(1, 25):
                    self.assertEqual(last_row(middle, high, first), slow_last_row(middle, high, first))

    def test_by_the_wall_polynomial(self):
        for middle, rule in ((False, (-1, 1)), (True, (-1, 0, 1))):
            for first in ROWS:
                for high in (1, 2, 5, 23, 24):
                    together = "0" * len(first)
                    for beats in wall_polynomial(high):
                        together = summed(together, after("walls", rule, first, beats))
                    self.assertEqual(last_row(middle, high, first), together)

    def test_edges(self):
        self.assertEqual([last_row(middle, 1, "1") for middle in (False, True)], ["0", "1"])
        self.assertEqual([last_row(middle, 2, "1") for middle in (False, True)], ["1", "0"])
        self.assertEqual(last_row(False, 24, "0" * 24), "0" * 24)
        for high in range(1, 25):
            self.assertEqual(last_row(False, high, "1" + "0" * (high - 1)), "0" * high)


if __name__ == "__main__":
    unittest.main()
