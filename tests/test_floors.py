import unittest

from beatlamps.errors import BadFloor, BadMiddle, BadSides, BadSize, Barred, TooMany
from beatlamps.floors import all_on, fewest_presses, floor_lost, pressed, presses_for, quiet, shows_all_on
from beatlamps.floors import shows_fewest_presses, shows_presses_for, shows_quiet
from tests.helper import NO_FLOOR_SIZES, NO_FLOORS, NO_MIDDLES, NO_SIDES, STRANGE, all_floors, caught, check_refusals
from tests.helper import check_refused, dark_floor, degree, euclid, floor_sum, floors_meet_oddly, single_floors
from tests.helper import slow_pressed, slow_rank, slow_wall_polynomial

SIDES = [(sides, middle) for sides in ("walls", "tube", "ring") for middle in (False, True)]
SMALL = [(1, 1), (1, 2), (2, 1), (1, 3), (3, 1), (2, 2), (2, 3), (3, 2), (1, 5), (5, 1), (2, 4), (4, 2), (1, 8), (8, 1),
         (3, 3)]
TINY = [(1, 1), (1, 2), (2, 1), (1, 3), (3, 1), (2, 2)]
GREAT = [(8, 8), (7, 8), (5, 5), (6, 6), (1, 8), (8, 1), (4, 7)]
PICTURE = ("11010010", "01001000", "00000100", "10100011", "01101001", "11111111", "00000000", "10000001")
SIDES_ERROR, MIDDLE_ERROR = ("sides", BadSides, NO_SIDES), ("middle", BadMiddle, NO_MIDDLES)
SIZE_ERRORS = [("high", BadSize, NO_FLOOR_SIZES), ("wide", BadSize, NO_FLOOR_SIZES)]


def picture(high, wide):
    return tuple(row[:wide] for row in PICTURE[:high])


def joined(floor):
    return "".join(floor)


def made_floors(sides, middle, high, wide):
    """What all presses make, by the presses."""
    return {presses: slow_pressed(sides, middle, presses) for presses in all_floors(high, wide)}


def sums_of(floors, high, wide):
    sums = [dark_floor(high, wide)]
    for floor in floors:
        sums = sums + [floor_sum(floor, other) for other in sums]
    return sums


class Pressed(unittest.TestCase):
    def test_refusals(self):
        for sides, middle in SIDES:
            for floor in (("1",), picture(8, 8), picture(1, 8), picture(8, 1)):
                check_refusals(self, pressed, {"sides": sides, "middle": middle, "presses": floor},
                               [SIDES_ERROR, MIDDLE_ERROR, ("presses", BadFloor, NO_FLOORS)])

    def test_all_small_presses(self):
        for sides, middle in SIDES:
            for high, wide in SMALL[:-1]:
                for presses, made in made_floors(sides, middle, high, wide).items():
                    self.assertEqual(pressed(sides, middle, presses), made)

    def test_all_sizes(self):
        for sides, middle in SIDES:
            for high in range(1, 9):
                for wide in range(1, 9):
                    floor = picture(high, wide)
                    self.assertEqual(pressed(sides, middle, floor), slow_pressed(sides, middle, floor))
                    other = tuple(row[::-1] for row in reversed(floor))
                    both = floor_sum(pressed(sides, middle, floor), pressed(sides, middle, other))
                    self.assertEqual(pressed(sides, middle, floor_sum(floor, other)), both)

    def test_edges(self):
        for sides in ("walls", "tube", "ring"):
            self.assertEqual((pressed(sides, False, ("1",)), pressed(sides, True, ("1",))), (("0",), ("1",)))
        self.assertEqual(pressed("walls", False, ("10",)), ("01",))
        self.assertEqual(pressed("tube", False, ("10",)), ("00",))
        self.assertEqual(pressed("tube", False, ("1", "0")), ("0", "1"))
        self.assertEqual(pressed("ring", False, ("1", "0")), ("0", "0"))
        self.assertEqual(pressed("tube", False, ("100", "000")), ("011", "100"))
        self.assertEqual(pressed("ring", False, ("100", "000")), ("011", "000"))
        self.assertEqual(pressed("ring", True, ("1", "0", "0")), ("1", "1", "1"))

    def test_repeated_and_turned_floors(self):
        for sides, middle in SIDES:
            for high, wide in ((2, 4), (3, 3), (4, 2)):
                floor = picture(high, wide)
                made = pressed(sides, middle, floor)
                self.assertEqual(pressed(sides, middle, tuple(row[::-1] for row in floor)),
                                 tuple(row[::-1] for row in made))
                self.assertEqual(pressed(sides, middle, floor[::-1]), made[::-1])
                if sides != "walls":
                    self.assertEqual(pressed(sides, middle, tuple(row * 2 for row in floor)),
                                     tuple(row * 2 for row in made))
                    self.assertEqual(pressed(sides, middle, tuple(row[1:] + row[:1] for row in floor)),
                                     tuple(row[1:] + row[:1] for row in made))
                if sides == "ring":
                    self.assertEqual(pressed(sides, middle, floor * 2), made * 2)
                    self.assertEqual(pressed(sides, middle, floor[1:] + floor[:1]), made[1:] + made[:1])


class PressesFor(unittest.TestCase):
    def test_refusals(self):
        for sides, middle in SIDES:
            good = {"sides": sides, "middle": middle, "floor": picture(8, 8)}
            wrong = [SIDES_ERROR, MIDDLE_ERROR, ("floor", BadFloor, NO_FLOORS)]
            check_refusals(self, presses_for, good, wrong)
            check_refusals(self, shows_presses_for, {**good, "value": None}, wrong)

    def test_all_small_floors(self):
        for sides, middle in SIDES:
            for high, wide in SMALL:
                made = made_floors(sides, middle, high, wide)
                can = set(made.values())
                alone = [made[floor] for floor in single_floors(high, wide)]
                for floor in all_floors(high, wide):
                    word, told = presses_for(sides, middle, floor)
                    if floor in can:
                        self.assertEqual((word, made[told]), ("presses", floor))
                    else:
                        self.assertEqual(word, "barred")
                        self.assertTrue(floors_meet_oddly(told, floor))
                        self.assertFalse(any(floors_meet_oddly(told, single) for single in alone))

    def test_great_floors(self):
        for sides, middle in SIDES:
            for high, wide in GREAT:
                for floor in (picture(high, wide), slow_pressed(sides, middle, picture(high, wide)),
                              dark_floor(high, wide), ("1" * wide,) * high):
                    word, told = presses_for(sides, middle, floor)
                    self.assertIs(shows_presses_for(sides, middle, floor, (word, told)), True)
                    if word == "presses":
                        self.assertEqual(slow_pressed(sides, middle, told), floor)
                    else:
                        self.assertTrue(floors_meet_oddly(told, floor))
                        for single in single_floors(high, wide):
                            self.assertFalse(floors_meet_oddly(told, slow_pressed(sides, middle, single)))
                floor = slow_pressed(sides, middle, picture(high, wide))
                self.assertEqual(presses_for(sides, middle, floor)[0], "presses")

    def test_shows_all_small_values(self):
        for sides, middle in SIDES:
            for high, wide in TINY:
                made = made_floors(sides, middle, high, wide)
                alone = [made[floor] for floor in single_floors(high, wide)]
                for floor in all_floors(high, wide):
                    for told in all_floors(high, wide):
                        self.assertIs(shows_presses_for(sides, middle, floor, ("presses", told)), made[told] == floor)
                        evenly = not any(floors_meet_oddly(told, single) for single in alone)
                        self.assertIs(shows_presses_for(sides, middle, floor, ("barred", told)),
                                      evenly and floors_meet_oddly(told, floor))

    def test_shows_any_value(self):
        for right, floor in ((("presses", ("10", "01")), ("00", "00")), (("barred", ("10", "01")), ("10", "00"))):
            self.assertIs(shows_presses_for("walls", False, floor, right), True)
            word, told = right
            bent = [list(right), (word,), right + (0,), (told, word), (word, told + ("00",)), (word, told[:1]), word, told,
                    (word, list(told)), (word, (told,)), (word.title(), told), ((word,), told), (word, ("11", "01")),
                    (word, ("100", "010")), (word, "1001"), (word, ("1001",)), (word, ("1", "0", "0", "1")), (True, told),
                    (None, told), {word: told}, (word, (10, 1)), (word, (["1", "0"], "01")), (word, ("1x", "01")),
                    ("garden", told), ("row", told), (word, ("10", None)), (word, ("10", "0"))]
            for value in bent + STRANGE + [(word, value) for value in NO_FLOORS]:
                self.assertIs(shows_presses_for("walls", False, floor, value), False, value)


class Quiet(unittest.TestCase):
    def test_refusals(self):
        for sides, middle in SIDES:
            for size in (1, 8):
                good = {"sides": sides, "middle": middle, "high": size, "wide": 9 - size}
                wrong = [SIDES_ERROR, MIDDLE_ERROR] + SIZE_ERRORS
                check_refusals(self, floor_lost, good, wrong)
                check_refusals(self, quiet, good, wrong)
                check_refusals(self, shows_quiet, {**good, "value": ()}, wrong)

    def test_all_small_sizes(self):
        for sides, middle in SIDES:
            for high, wide in SMALL:
                made = made_floors(sides, middle, high, wide)
                silent = sorted(presses for presses in made if made[presses] == dark_floor(high, wide))
                told = quiet(sides, middle, high, wide)
                self.assertIs(told.__class__, tuple)
                self.assertEqual(2 ** floor_lost(sides, middle, high, wide), len(silent))
                self.assertEqual(len(told), floor_lost(sides, middle, high, wide))
                self.assertEqual(sorted(sums_of(told, high, wide)), silent)
                self.assertIs(shows_quiet(sides, middle, high, wide, told), True)

    def test_all_sizes(self):
        for sides, middle in SIDES:
            for high in range(1, 9):
                for wide in range(1, 9):
                    told = quiet(sides, middle, high, wide)
                    self.assertEqual(len(told), floor_lost(sides, middle, high, wide))
                    for presses in told:
                        self.assertEqual(slow_pressed(sides, middle, presses), dark_floor(high, wide))
                    self.assertEqual(slow_rank([joined(presses) for presses in told]), len(told))
                    self.assertEqual(floor_lost("ring", middle, high, wide), floor_lost("ring", middle, wide, high))

    def test_what_is_lost_by_rank(self):
        for sides, middle in SIDES:
            for high, wide in GREAT:
                rows = [joined(slow_pressed(sides, middle, single)) for single in single_floors(high, wide)]
                self.assertEqual(floor_lost(sides, middle, high, wide), high * wide - slow_rank(rows))

    def test_what_is_lost_between_walls_by_degree(self):
        for high in range(1, 9):
            for wide in range(1, 9):
                for middle, step in ((False, (1,)), (True, (0, 1))):
                    both = euclid(slow_wall_polynomial(high, step), slow_wall_polynomial(wide))
                    self.assertEqual(floor_lost("walls", middle, high, wide), degree(both))

    def test_edges(self):
        for sides in ("walls", "tube", "ring"):
            self.assertEqual((floor_lost(sides, False, 1, 1), quiet(sides, False, 1, 1)), (1, (("1",),)))
            self.assertEqual((floor_lost(sides, True, 1, 1), quiet(sides, True, 1, 1)), (0, ()))
        self.assertEqual([floor_lost("walls", False, 8, 8), floor_lost("ring", False, 8, 8)], [8, 16])

    def test_shows_all_small_values(self):
        for sides, middle in SIDES:
            for high, wide in TINY:
                made = made_floors(sides, middle, high, wide)
                number = floor_lost(sides, middle, high, wide)
                dark = dark_floor(high, wide)
                values = [()] + [(one,) for one in made] + [(one, other) for one in made for other in made]
                for value in values:
                    alone = len(value) == number and slow_rank([joined(floor) for floor in value]) == number
                    right = alone and all(made[floor] == dark for floor in value)
                    self.assertIs(shows_quiet(sides, middle, high, wide, value), right)

    def test_shows_any_value(self):
        right = (("10", "01"), ("11", "11"))
        self.assertIs(shows_quiet("walls", False, 2, 2, right), True)
        self.assertIs(shows_quiet("walls", False, 2, 2, (("10", "01"), ("01", "10"))), True)
        bent = [list(right), right[:1], right + (("01", "10"),), (right[0], right[0]), (right[0], ("00", "00")),
                (right[0], ("01", "11")), (right[0], ["11", "11"]), (right[0], "1111"), (right[0], ("11", "11", "00")),
                (right[0], ("11",)), (right[0], ("110", "110")), (right[0], None), (right[0], (11, 11)), (), (right,), "",
                ("1001", "1111"), (right[0], ("11", ["11"]))]
        for value in bent + STRANGE + NO_FLOORS:
            self.assertIs(shows_quiet("walls", False, 2, 2, value), False, value)
        self.assertIs(shows_quiet("walls", True, 2, 2, ()), True)
        for value in bent[:13] + [[], "", None, False, ((),), {}]:
            self.assertIs(shows_quiet("walls", True, 2, 2, value), False, value)


class FewestPresses(unittest.TestCase):
    def test_refusals(self):
        for sides, middle in SIDES:
            good = {"sides": sides, "middle": middle, "floor": dark_floor(3, 3)}
            wrong = [SIDES_ERROR, MIDDLE_ERROR, ("floor", BadFloor, NO_FLOORS)]
            check_refusals(self, fewest_presses, good, wrong)
            check_refusals(self, shows_fewest_presses, {**good, "value": None}, wrong)

    def check_barred(self, sides, middle, floor):
        for function, more in ((fewest_presses, ()), (shows_fewest_presses, (None,)), (shows_fewest_presses, ((0, floor),))):
            error = caught(function, sides, middle, floor, *more)
            self.assertIs(error.__class__, Barred)
            self.assertIs(shows_presses_for(sides, middle, floor, ("barred", error.value)), True)

    def test_all_small_floors(self):
        for sides, middle in SIDES:
            for high, wide in SMALL:
                made = made_floors(sides, middle, high, wide)
                fewest = {}
                for presses, floor in made.items():
                    fewest[floor] = min(fewest.get(floor, 99), joined(presses).count("1"))
                for floor in all_floors(high, wide):
                    if floor not in fewest:
                        self.check_barred(sides, middle, floor)
                        continue
                    number, presses = fewest_presses(sides, middle, floor)
                    self.assertEqual((number, joined(presses).count("1")), (fewest[floor], fewest[floor]))
                    self.assertEqual(made[presses], floor)
                    self.assertIs(shows_fewest_presses(sides, middle, floor, (number, presses)), True)

    def test_great_floors(self):
        for sides, middle, high, wide in (("walls", False, 8, 8), ("walls", True, 5, 5), ("ring", False, 6, 6),
                                          ("tube", True, 8, 6), ("ring", True, 6, 6), ("walls", True, 8, 8)):
            floor = slow_pressed(sides, middle, picture(high, wide))
            number, presses = fewest_presses(sides, middle, floor)
            self.assertEqual(slow_pressed(sides, middle, presses), floor)
            silent = sums_of(quiet(sides, middle, high, wide), high, wide)
            counts = [joined(floor_sum(other, picture(high, wide))).count("1") for other in silent]
            self.assertEqual((number, joined(presses).count("1")), (min(counts), min(counts)))
            for other in silent[:300]:
                value = (number, floor_sum(other, presses))
                right = joined(value[1]).count("1") == number
                self.assertIs(shows_fewest_presses(sides, middle, floor, value), right)

    def test_too_many(self):
        self.assertEqual([floor_lost("ring", False, size, size) for size in (6, 7, 8)], [12, 13, 16])
        self.assertEqual(fewest_presses("ring", False, dark_floor(6, 6)), (0, dark_floor(6, 6)))
        for size in (7, 8):
            single = ("1" + "0" * (size - 1),) + dark_floor(size - 1, size)
            for floor in (dark_floor(size, size), slow_pressed("ring", False, picture(size, size))):
                good = {"sides": "ring", "middle": False, "floor": floor}
                check_refused(self, fewest_presses, good, TooMany, 12)
                check_refused(self, shows_fewest_presses, {**good, "value": (0, floor)}, TooMany, 12)
            self.check_barred("ring", False, single)

    def test_shows_all_small_values(self):
        for sides, middle in SIDES:
            for high, wide in TINY:
                made = made_floors(sides, middle, high, wide)
                for floor in set(made.values()):
                    counts = [joined(presses).count("1") for presses in made if made[presses] == floor]
                    for presses in made:
                        for number in range(-1, high * wide + 2):
                            fewest = joined(presses).count("1") == number == min(counts)
                            self.assertIs(shows_fewest_presses(sides, middle, floor, (number, presses)),
                                          made[presses] == floor and fewest)

    def test_shows_any_value(self):
        floor = ("11", "11")
        for right in ((2, ("11", "00")), (2, ("00", "11")), (2, ("10", "10"))):
            self.assertIs(shows_fewest_presses("walls", False, floor, right), True)
        bent = [[2, ("11", "00")], (2, ["11", "00"]), (2,), (2, ("11", "00"), 0), (("11", "00"), 2), (2, ("10", "01")),
                (3, ("11", "00")), (1, ("11", "00")), ("2", ("11", "00")), (None, ("11", "00")), (2, None), 2,
                ("11", "00"), (2, "1100"), (2, ("1100",)), (2, ("11",)), (2, ("11", "00", "00")), (2, ("110", "000")),
                (2, ("11", "0")), ("presses", ("11", "00")), (2, ("11", None)), ((2,), ("11", "00")), {2: ("11", "00")}]
        for value in bent + STRANGE + [(2, value) for value in NO_FLOORS]:
            self.assertIs(shows_fewest_presses("walls", False, floor, value), False, value)
        floor = slow_pressed("walls", True, ("10", "00"))
        self.assertIs(shows_fewest_presses("walls", True, floor, (1, ("10", "00"))), True)
        self.assertIs(shows_fewest_presses("walls", True, floor, (True, ("10", "00"))), False)
        self.assertIs(shows_fewest_presses("walls", True, ("00",), (False, ("00",))), False)
        self.assertIs(shows_fewest_presses("walls", True, ("00",), (0, ("00",))), True)


class AllOn(unittest.TestCase):
    def test_refusals(self):
        for sides, _ in SIDES:
            for size in (1, 8):
                good = {"sides": sides, "high": size, "wide": 9 - size}
                check_refusals(self, all_on, good, [SIDES_ERROR] + SIZE_ERRORS)
                check_refusals(self, shows_all_on, {**good, "value": ()}, [SIDES_ERROR] + SIZE_ERRORS)

    def test_all_sizes(self):
        for sides in ("walls", "tube", "ring"):
            for high in range(1, 9):
                for wide in range(1, 9):
                    presses = all_on(sides, high, wide)
                    self.assertEqual(slow_pressed(sides, True, presses), ("1" * wide,) * high)
                    self.assertIs(shows_all_on(sides, high, wide, presses), True)
                    for silent in quiet(sides, True, high, wide):
                        self.assertIs(shows_all_on(sides, high, wide, floor_sum(presses, silent)), True)
                    self.assertIs(shows_all_on(sides, high, wide, dark_floor(high, wide)), False)

    def test_shows_all_small_values(self):
        for sides in ("walls", "tube", "ring"):
            for high, wide in SMALL[:-1]:
                for presses in all_floors(high, wide):
                    right = slow_pressed(sides, True, presses) == ("1" * wide,) * high
                    self.assertIs(shows_all_on(sides, high, wide, presses), right)

    def test_shows_any_value(self):
        self.assertIs(shows_all_on("walls", 1, 2, ("10",)), True)
        self.assertIs(shows_all_on("walls", 1, 2, ("01",)), True)
        for value in [["10"], "10", ("10", "00"), ("100",), ("1",), ("11",), (("10",),), ((1, 0),), (10,), ("presses", ("10",)),
                      ("1x",), ("10", None)] + STRANGE + NO_FLOORS:
            self.assertIs(shows_all_on("walls", 1, 2, value), False, value)
        self.assertIs(shows_all_on("walls", 1, 1, ("1",)), True)
        self.assertIs(shows_all_on("walls", 2, 1, ("1", "0")), True)
        self.assertIs(shows_all_on("walls", 2, 1, ("10",)), False)


if __name__ == "__main__":
    unittest.main()
