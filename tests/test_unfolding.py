import unittest

from beatlamps.errors import BadFloor, BadMiddle, NoSpread, NotQuiet
from beatlamps.floors import quiet
from beatlamps.unfolding import is_quiet, spread
from tests.helper import NO_FLOORS, NO_LARGE_FLOORS, NO_MIDDLES, NO_ROW_SIZES, all_floors, caught, check_refusals
from tests.helper import dark_floor, floor_sum, slow_pressed
from tests.test_floors import SMALL, TINY, picture

NOT_SPREAD = NO_ROW_SIZES + [3, 4, 6, 7, 9, 10, 12, 22, 24]


def is_silent(middle, presses):
    return slow_pressed("walls", middle, presses) == dark_floor(len(presses), len(presses[0]))


def slow_place(at, size):
    """Which place of the small floor stands here, None if none does."""
    turns, rest = divmod(at, size + 1)
    if rest == size:
        return None
    return size - 1 - rest if turns % 2 else rest


def slow_spread(presses, high, wide):
    rows = []
    for at in range(high):
        row = ""
        for place in range(wide):
            there, column = slow_place(at, len(presses)), slow_place(place, len(presses[0]))
            row += "0" if there is None or column is None else presses[there][column]
        rows.append(row)
    return tuple(rows)


class Spread(unittest.TestCase):
    def test_refusals(self):
        for middle, presses, high, wide, noisy in ((False, ("10", "01"), 5, 23, [("10", "00"), ("01", "11"), ("10",)]),
                                                   (True, ("101", "101"), 2, 23, [("101", "111"), ("1",), ("1" * 8,) * 8])):
            good = {"middle": middle, "presses": presses, "high": high, "wide": wide}
            self.assertTrue(is_silent(middle, presses))
            check_refusals(self, spread, good, [("middle", BadMiddle, NO_MIDDLES), ("presses", BadFloor, NO_FLOORS),
                                                ("presses", NotQuiet, noisy)])

    def check_no_spread(self, middle, presses, high, wide):
        for error in (caught(spread, middle, presses, high, wide),
                      caught(spread, middle=middle, presses=presses, high=high, wide=wide)):
            self.assertIs(error.__class__, NoSpread)
            self.assertIs(error.value.__class__, tuple)
            self.assertEqual(len(error.value), 2)
            for one, other in zip(error.value, (high, wide)):
                self.assertEqual(one, other)
                self.assertIs(one.__class__, other.__class__)

    def test_no_spread(self):
        for value in NOT_SPREAD:
            for other in (2, 5, 8, 23):
                self.check_no_spread(False, ("10", "01"), value, other)
                self.check_no_spread(False, ("10", "01"), other, value)
            self.check_no_spread(False, ("10", "01"), value, value)
            self.assertIs(caught(spread, False, ("10", "00"), value, value).__class__, NotQuiet)
            self.assertIs(caught(spread, False, ("10", "001"), value, value).__class__, BadFloor)
            self.assertIs(caught(spread, 0, ("10", "00"), value, value).__class__, BadMiddle)
        self.check_no_spread(False, ("1",), True, 1)
        self.check_no_spread(False, ("1",), 1, True)
        self.check_no_spread(False, ("00", "00"), 26, 2)
        self.check_no_spread(False, ("00", "00"), 2, 26)
        self.check_no_spread(False, ("0" * 7,), 1, 31)
        self.check_no_spread(False, ("0" * 8,) * 8, 8, 24)
        self.check_no_spread(True, ("0" * 8,) * 8, 2, 8)

    def test_small_floors(self):
        for middle in (False, True):
            for small_high, small_wide in SMALL:
                told = quiet("walls", middle, small_high, small_wide)
                for presses in told + (dark_floor(small_high, small_wide),):
                    for high in range(1, 25):
                        for wide in range(1, 25):
                            if (high + 1) % (small_high + 1) or (wide + 1) % (small_wide + 1):
                                self.check_no_spread(middle, presses, high, wide)
                                continue
                            great = spread(middle, presses, high, wide)
                            self.assertEqual(great, slow_spread(presses, high, wide))
                            if high * wide < 100 or high + wide > 44:
                                self.assertTrue(is_silent(middle, great))
                            self.assertIs(is_quiet(middle, great), True)

    def test_great_floors(self):
        for middle, small_high, small_wide in ((False, 8, 8), (True, 5, 5), (False, 7, 7), (False, 5, 8), (True, 4, 4),
                                               (True, 8, 8), (True, 7, 5), (True, 6, 8)):
            for presses in quiet("walls", middle, small_high, small_wide):
                high, wide = 24 // (small_high + 1) * (small_high + 1) - 1, 24 // (small_wide + 1) * (small_wide + 1) - 1
                great = spread(middle, presses, high, wide)
                self.assertEqual(great, slow_spread(presses, high, wide))
                self.assertTrue(is_silent(middle, great))
                self.assertEqual(spread(middle, presses, small_high, small_wide), presses)

    def test_edges(self):
        self.assertEqual(spread(False, ("1",), 1, 1), ("1",))
        self.assertEqual(spread(False, ("1",), 1, 23), ("10" * 11 + "1",))
        self.assertEqual(spread(False, ("1",), 23, 1), ("1", "0") * 11 + ("1",))
        self.assertEqual(spread(False, ("10", "01"), 2, 8), ("10001010", "01010001"))
        self.assertEqual(spread(True, ("0",), 23, 23), dark_floor(23, 23))
        self.assertEqual(spread(True, ("0",), 3, 1), ("0", "0", "0"))

    def test_sums(self):
        one, other = quiet("walls", False, 2, 2)
        both = floor_sum(spread(False, one, 8, 5), spread(False, other, 8, 5))
        self.assertEqual(spread(False, floor_sum(one, other), 8, 5), both)


class IsQuiet(unittest.TestCase):
    def test_refusals(self):
        for middle in (False, True):
            for presses in (("1",), ("1" * 24,) * 24, ("0" * 24,), ("1",) * 24, picture(8, 8)):
                check_refusals(self, is_quiet, {"middle": middle, "presses": presses},
                               [("middle", BadMiddle, NO_MIDDLES), ("presses", BadFloor, NO_LARGE_FLOORS)])

    def test_all_small_presses(self):
        for middle in (False, True):
            for high, wide in SMALL:
                for presses in all_floors(high, wide):
                    self.assertIs(is_quiet(middle, presses), is_silent(middle, presses))

    def test_great_presses(self):
        for middle in (False, True):
            for presses in (dark_floor(24, 24), ("1" * 24,) * 24, tuple(row * 3 for row in picture(8, 8) * 3),
                            ("1" + "0" * 23,) + dark_floor(23, 24), dark_floor(23, 24) + ("0" * 23 + "1",)):
                self.assertIs(is_quiet(middle, presses), is_silent(middle, presses))
        # Between walls of one size each row, and the one below it, may be what comes of a first one by chasing.
        for at in range(1, 24):
            presses = ["0" * 24, "0" * at + "1" + "0" * (23 - at)]
            for _ in range(23):
                around = "0" + presses[-1] + "0"
                beside = [int(around[place - 1]) ^ int(around[place + 1]) for place in range(1, 25)]
                presses.append("".join(str(one ^ int(two)) for one, two in zip(beside, presses[-2])))
            great = tuple(presses[1:])
            self.assertTrue(is_silent(False, great))
            self.assertIs(is_quiet(False, great), True)
            bent = great[:11] + (great[11][:at] + str(1 - int(great[11][at])) + great[11][at + 1:],) + great[12:]
            self.assertIs(is_quiet(False, bent), False)

    def test_edges(self):
        self.assertEqual([is_quiet(middle, ("1",)) for middle in (False, True)], [True, False])
        for high, wide in TINY:
            for middle in (False, True):
                self.assertIs(is_quiet(middle, dark_floor(high, wide)), True)


if __name__ == "__main__":
    unittest.main()
