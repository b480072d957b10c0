import unittest
from itertools import product

from beatlamps.errors import BadKind, BadRow, BadRule, BadSize, Garden, Loses, NotEven, TooMany
from beatlamps.gardens import ahead, all_ahead, all_marks, dark_rows, lost, shows_ahead, shows_all_marks
from beatlamps.gardens import shows_dark_rows, undoing
from beatlamps.rules import turned
from tests.helper import EVEN_RULES, NO_KINDS, NO_ROW_SIZES, NO_ROWS, NO_RULES, RULES, SOME_EVEN, STRANGE, UNEVEN
from tests.helper import all_rows, all_subset_sums, caught, check_refusals, degree, independent, kinds_and_rules
from tests.helper import meets_oddly, odd_ones, slow_beat, slow_common, slow_ring_beat, slow_sum

SMALL = [(kind, rule, size) for kind, rule in kinds_and_rules() for size in range(1, 7)]
SMALL = SMALL + [("walls", rule, size) for rule in EVEN_RULES[::3] for size in range(1, 5)]
TINY = [(kind, rule, size) for kind, rule in kinds_and_rules() for size in range(1, 4)]
GREAT = [(kind, rule, size) for kind, rule in kinds_and_rules() for size in (12, 23, 24)]


def wrongs(kind, last):
    """The refusals of kind, rule, and what stands behind them."""
    uneven = [("rule", NotEven, UNEVEN)] if kind == "walls" else []
    errors = {"row": ("row", BadRow, NO_ROWS), "size": ("size", BadSize, NO_ROW_SIZES)}
    return [("kind", BadKind, NO_KINDS), ("rule", BadRule, NO_RULES)] + uneven + [errors[last]]


def slow_images(kind, rule, size):
    return {row: slow_beat(kind, rule, row) for row in all_rows(size)}


def slow_marks(kind, rule, size):
    """All marks that meet each row that comes from some row evenly, dark ones too."""
    come = set(slow_images(kind, rule, size).values())
    return [marks for marks in all_rows(size) if not any(meets_oddly(marks, row) for row in come)]


def doublings(many):
    """The number of which the power of two is so many."""
    return many.bit_length() - 1


def rows_of_24(rule, kind):
    for row in ("1" + "0" * 23, "110100100010000100000101", "1" * 24, "0" * 24):
        yield row
        yield slow_beat(kind, rule, row)


class Ahead(unittest.TestCase):
    def test_refusals(self):
        for kind in ("ring", "walls"):
            good = {"kind": kind, "rule": (-6, 0, 6), "row": "1"}
            check_refusals(self, ahead, good, wrongs(kind, "row"))
            check_refusals(self, all_ahead, good, wrongs(kind, "row"))
            check_refusals(self, shows_ahead, {**good, "value": None}, wrongs(kind, "row"))
        check_refusals(self, ahead, {"kind": "ring", "rule": (0, 1), "row": "1" * 24}, wrongs("ring", "row"))

    def check(self, kind, rule, row, right):
        """Whether ahead tells right, right being all rows from which the row comes."""
        word, other = ahead(kind, rule, row)
        self.assertIs(shows_ahead(kind, rule, row, (word, other)), True)
        self.assertEqual(len(other), len(row))
        if right:
            self.assertEqual(word, "row")
            self.assertIn(other, right)
            self.assertEqual(all_ahead(kind, rule, row), tuple(sorted(right)))
        else:
            self.assertEqual(word, "garden")
            self.assertTrue(meets_oddly(other, row))
            error = caught(all_ahead, kind, rule, row)
            self.assertIs(error.__class__, Garden)
            self.assertIs(shows_ahead(kind, rule, row, ("garden", error.value)), True)

    def test_all_small_rows(self):
        for kind, rule, size in SMALL:
            images = slow_images(kind, rule, size)
            even = slow_marks(kind, rule, size)
            for row in all_rows(size):
                right = [other for other in images if images[other] == row]
                self.check(kind, rule, row, right)
                if not right:
                    self.assertIn(ahead(kind, rule, row)[1], even)

    def test_great_rows(self):
        for kind, rule, size in GREAT:
            for long_row in rows_of_24(rule, kind):
                row = long_row[:size]
                word, other = ahead(kind, rule, row)
                if word == "row":
                    self.assertEqual(slow_beat(kind, rule, other), row)
                else:
                    self.assertTrue(meets_oddly(other, row))
                    for at in range(size):
                        alone = "0" * at + "1" + "0" * (size - at - 1)
                        self.assertFalse(meets_oddly(other, slow_beat(kind, rule, alone)))

    def test_rows_that_come_are_no_gardens(self):
        for kind, rule, _ in GREAT[::3]:
            for row in rows_of_24(rule, kind):
                self.assertEqual(ahead(kind, rule, slow_beat(kind, rule, row))[0], "row")

    def test_shows_all_small_values(self):
        for kind, rule, size in TINY:
            images = slow_images(kind, rule, size)
            even = slow_marks(kind, rule, size)
            for row in all_rows(size):
                for other in all_rows(size):
                    self.assertIs(shows_ahead(kind, rule, row, ("row", other)), images[other] == row)
                    right = other in even and meets_oddly(other, row)
                    self.assertIs(shows_ahead(kind, rule, row, ("garden", other)), right)

    def test_shows_any_value(self):
        for right, row in ((("row", "0100"), "1010"), (("garden", "1111"), "1000")):
            self.assertIs(shows_ahead("ring", (-1, 1), row, right), True)
            word, told = right
            bent = [list(right), (word,), right + (0,), (told, word), (word, told + "0"), (word, told[1:]), word, told,
                    (word, [told]), (word, (told,)), ("Row", told), ("rows", told), ((word,), told), [word, told],
                    (word, "2" + told[1:]), (word, ""), (word, tuple(told)), (True, told), (None, told), {word: told}]
            for value in bent + STRANGE + NO_ROWS + [(word, value) for value in NO_ROWS]:
                self.assertIs(shows_ahead("ring", (-1, 1), row, value), False, value)


class AllAhead(unittest.TestCase):
    def test_as_many_as_can_be(self):
        # x ** 8 + 1 darkens 8 of the 16 lamps' sums on this ring, so each row comes from 256 rows.
        rows = all_ahead("ring", (-4, 4), "0" * 16)
        self.assertEqual(len(rows), 256)
        self.assertEqual(rows, tuple(sorted(set(rows))))
        for row in rows:
            self.assertEqual(slow_beat("ring", (-4, 4), row), "0" * 16)

    def test_more_than_that(self):
        # On the ring of 18 lamps x ** 9 + 1 is lost: 512 rows ahead of each that comes.
        comes = slow_beat("ring", (-6, 3), "110100100010000100")
        for rule, row in (((-6, 3), comes), ((-6, 3), "0" * 18), ((-5, 5), "0" * 10), ((-6, 6), "0" * 24)):
            self.assertEqual(ahead("ring", rule, row)[0], "row")
            error = caught(all_ahead, "ring", rule, row)
            self.assertIs(error.__class__, TooMany)
            self.assertEqual(error.value, 256)
        for rule, row in (((-6, 3), "1" + "0" * 17), ((-5, 5), "1" * 10), ((-6, 6), "1" + "0" * 23)):
            self.assertIs(caught(all_ahead, "ring", rule, row).__class__, Garden)

    def test_sums(self):
        for kind, rule, size in TINY:
            for row in all_rows(size):
                if ahead(kind, rule, row)[0] == "row":
                    first = all_ahead(kind, rule, row)[0]
                    dark = all_ahead(kind, rule, "0" * size)
                    self.assertEqual(sorted(slow_sum(first, other) for other in dark), list(all_ahead(kind, rule, row)))


class Lost(unittest.TestCase):
    def test_refusals(self):
        for kind in ("ring", "walls"):
            good = {"kind": kind, "rule": (-6, 0, 6), "size": 24}
            for function in (lost, dark_rows, all_marks):
                check_refusals(self, function, good, wrongs(kind, "size"))
            for function in (shows_dark_rows, shows_all_marks):
                check_refusals(self, function, {**good, "value": ()}, wrongs(kind, "size"))

    def test_all_small_sizes(self):
        for kind, rule, size in SMALL:
            images = slow_images(kind, rule, size)
            dark = [row for row in images if images[row] == "0" * size]
            number = lost(kind, rule, size)
            self.assertEqual(number, doublings(len(dark)))
            told = dark_rows(kind, rule, size)
            self.assertIs(told.__class__, tuple)
            self.assertEqual(len(told), number)
            self.assertEqual(sorted(all_subset_sums(told, size)), dark)
            marks = all_marks(kind, rule, size)
            self.assertIs(marks.__class__, tuple)
            self.assertEqual(len(marks), number)
            self.assertEqual(sorted(all_subset_sums(marks, size)), slow_marks(kind, rule, size))
            self.assertIs(shows_dark_rows(kind, rule, size, told), True)
            self.assertIs(shows_all_marks(kind, rule, size, marks), True)

    def test_great_sizes(self):
        for kind, rule, size in GREAT:
            told = dark_rows(kind, rule, size)
            self.assertEqual(len(told), lost(kind, rule, size))
            for row in told:
                self.assertEqual(slow_beat(kind, rule, row), "0" * size)
            if len(told) <= 8:
                self.assertTrue(independent(told, size))

    def test_what_is_lost_on_rings_by_degree(self):
        for rule in RULES:
            if rule[-1] - rule[0] <= 5:
                powers = tuple(at - rule[0] for at in rule)
                for size in range(1, 7):
                    self.assertEqual(lost("ring", rule, size), degree(slow_common(powers, (0, size))))

    def test_edges(self):
        self.assertEqual(lost("ring", (-6, 6), 1), 1)
        self.assertEqual(dark_rows("ring", (-6, 6), 1), ("1",))
        self.assertEqual(lost("ring", (-1, 1), 2), 2)
        self.assertEqual(lost("ring", (-6, 6), 12), 12)
        self.assertEqual(lost("ring", (-6, 6), 24), 12)
        self.assertEqual(lost("ring", (0,), 24), 0)
        self.assertEqual(dark_rows("ring", (0,), 24), ())
        self.assertEqual(all_marks("walls", (0,), 24), ())

    def test_turned_about(self):
        for kind, rule, size in SMALL + GREAT:
            self.assertEqual(lost(kind, turned(rule), size), lost(kind, rule, size))
            about = tuple(row[::-1] for row in dark_rows(kind, rule, size))
            self.assertIs(shows_dark_rows(kind, turned(rule), size, about), True)
            self.assertIs(shows_all_marks(kind, turned(rule), size, dark_rows(kind, rule, size)), True)

    def test_shows_all_small_values(self):
        for kind, rule, size in TINY:
            images = slow_images(kind, rule, size)
            marks = slow_marks(kind, rule, size)
            number = lost(kind, rule, size)
            for many in range(number + 2):
                for rows in product(all_rows(size), repeat=many):
                    if many > 2 and rows[0] > rows[1]:
                        continue
                    alone = many == number and independent(rows, size)
                    right = alone and all(images[row] == "0" * size for row in rows)
                    self.assertIs(shows_dark_rows(kind, rule, size, rows), right)
                    right = alone and all(row in marks for row in rows)
                    self.assertIs(shows_all_marks(kind, rule, size, rows), right)

    def test_shows_any_value(self):
        for shows in (shows_dark_rows, shows_all_marks):
            self.assertIs(shows("ring", (-1, 1), 4, ("1010", "0101")), True)
            self.assertIs(shows("ring", (-1, 1), 4, ("1010", "1111")), True)
            bent = [["1010", "0101"], ("1010",), ("1010", "0101", "1111"), ("1010", "1010"), ("1010", "0000"),
                    ("1010", "0100"), ("1010", "01010"), ("1010", "010"), ("1010", ["0101"]), ("1010", 101), (),
                    ("1010", None), (("1010", "0101"),), "1010", ("1010", "")]
            for value in bent + STRANGE + NO_ROWS:
                self.assertIs(shows("ring", (-1, 1), 4, value), False, value)
            self.assertIs(shows("ring", (0,), 4, ()), True)
            for value in bent[:10] + bent[11:] + [[], "", None, False]:
                self.assertIs(shows("ring", (0,), 4, value), False, value)


class Undoing(unittest.TestCase):
    def test_refusals(self):
        check_refusals(self, undoing, {"rule": (-1, 0, 1), "size": 4},
                       [("rule", BadRule, NO_RULES), ("size", BadSize, NO_ROW_SIZES)])

    def test_all_sizes(self):
        for rule in RULES + SOME_EVEN:
            for size in range(1, 25):
                number = lost("ring", rule, size)
                if number:
                    error = caught(undoing, rule, size)
                    self.assertIs(error.__class__, Loses)
                    self.assertEqual(error.value, number)
                    continue
                offsets = undoing(rule, size)
                self.assertEqual(offsets, tuple(sorted(set(offsets) & set(range(size)))))
                for row in ("1" + "0" * (size - 1), "110100110101111000010010"[:size]):
                    self.assertEqual(slow_ring_beat(offsets, slow_ring_beat(rule, row)), row)

    def test_edges(self):
        self.assertEqual(undoing((0,), 1), (0,))
        self.assertEqual(undoing((-6,), 1), (0,))
        self.assertEqual(undoing((-1, 0, 1), 1), (0,))
        self.assertEqual(undoing((-1, 0, 1), 2), (0,))
        self.assertEqual(undoing((6,), 24), (18,))

    def test_turned_about(self):
        for rule in RULES:
            for size in (1, 2, 5, 7, 24):
                if lost("ring", rule, size) == 0:
                    about = odd_ones([-at % size for at in undoing(rule, size)])
                    self.assertEqual(undoing(turned(rule), size), about)


if __name__ == "__main__":
    unittest.main()
