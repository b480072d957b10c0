import unittest

from beatlamps.own import own, own_row
from beatlamps.rows import summed
from beatlamps.rules import turned
from beatlamps.polys import common, parted, times
from tests.helper import EVEN_RULES, all_polynomials, all_rows, check_refusals, kinds_and_rules, slow_beat, slow_sum
from tests.test_gardens import wrongs

SMALL = [(kind, rule, size) for kind, rule in kinds_and_rules() for size in range(1, 5)]
SMALL = SMALL + [("walls", rule, size) for rule in EVEN_RULES[::7] for size in range(1, 5)]
GREAT_ROWS = ["1" + "0" * 23, "110100100010000100000101", "1" * 24, "10" * 12, "100" * 5, "0" * 24]
BY_DEGREE = sorted(all_polynomials(5)[1:], key=lambda one: one[-1])


def darkens(powers, rows):
    """Whether the rows that come behind as many beats as each of the powers tells are dark together."""
    together = "0" * len(rows[0])
    for beats in powers:
        together = slow_sum(together, rows[beats])
    return "1" not in together


def comings(kind, rule, row, many):
    rows = [row]
    while len(rows) <= many:
        rows.append(slow_beat(kind, rule, rows[-1]))
    return rows


class Own(unittest.TestCase):
    def test_refusals(self):
        for kind in ("ring", "walls"):
            good = {"kind": kind, "rule": (-6, 0, 6)}
            check_refusals(self, own_row, {**good, "row": "1" * 24}, wrongs(kind, "row"))
            check_refusals(self, own, {**good, "size": 24}, wrongs(kind, "size"))

    def test_all_small_rows(self):
        for kind, rule, size in SMALL:
            going = [comings(kind, rule, row, 5) for row in all_rows(size)]
            for rows in going:
                right = [one for one in BY_DEGREE if darkens(one, rows)]
                self.assertEqual(own_row(kind, rule, rows[0]), right[0])
                self.assertLess(right[0][-1], min([one[-1] for one in right[1:]], default=9))
            right = [one for one in BY_DEGREE if all(darkens(one, rows) for rows in going)]
            self.assertEqual(own(kind, rule, size), right[0])

    def test_it_divides_just_all_that_darken(self):
        for kind, rule, size in SMALL[::5]:
            for row in all_rows(size):
                least, rows = own_row(kind, rule, row), comings(kind, rule, row, 5)
                for one in BY_DEGREE:
                    self.assertIs(parted(one, least)[1] == (), darkens(one, rows))

    def test_edges(self):
        for size in (1, 2, 24):
            self.assertEqual(own_row("ring", (0, 1), "0" * size), (0,))
            self.assertEqual(own_row("walls", (-6, 6), "0" * size), (0,))
        self.assertEqual(own("ring", (-1, 1), 1), (1,))
        self.assertEqual(own("ring", (-1, 1), 2), (1,))
        self.assertEqual(own("ring", (0,), 24), (0, 1))
        self.assertEqual(own("ring", (1,), 24), (0, 24))
        self.assertEqual(own("walls", (0,), 24), (0, 1))
        self.assertEqual(own("ring", (-6, 6), 24), (2,))

    def test_great_rows(self):
        for kind, rule in kinds_and_rules():
            for row in GREAT_ROWS:
                least, rows = own_row(kind, rule, row), comings(kind, rule, row, 24)
                self.assertTrue(darkens(least, rows))
                # If one of lesser degree darkened the row, as many rows ahead of it would not be independent.
                pivots = []
                for there in rows[:least[-1]]:
                    for pivot in pivots:
                        if there[pivot.index("1")] == "1":
                            there = slow_sum(there, pivot)
                    self.assertIn("1", there)
                    pivots.append(there)

    def test_all_rows_of_great_sizes(self):
        for kind, rule in kinds_and_rules():
            for size in (7, 16, 24):
                together = (0,)
                for at in range(size):
                    one = own_row(kind, rule, "0" * at + "1" + "0" * (size - at - 1))
                    together = parted(times(together, one), common(together, one)[0])[0]
                self.assertEqual(own(kind, rule, size), together)

    def test_sums(self):
        for kind, rule in kinds_and_rules():
            for one, other in zip(GREAT_ROWS[:4], GREAT_ROWS[1:4]):
                both = times(own_row(kind, rule, one), own_row(kind, rule, other))
                self.assertEqual(parted(both, own_row(kind, rule, summed(one, other)))[1], ())

    def test_turned_about(self):
        for kind, rule in kinds_and_rules():
            for row in GREAT_ROWS:
                self.assertEqual(own_row(kind, turned(rule), row[::-1]), own_row(kind, rule, row))
                if kind == "ring":
                    self.assertEqual(own_row(kind, rule, row[7:] + row[:7]), own_row(kind, rule, row))
                self.assertEqual(own(kind, turned(rule), len(row)), own(kind, rule, len(row)))

    def test_repeated_rows(self):
        for kind, rule in kinds_and_rules():
            for row in ("1", "10", "110", "01101"):
                if kind == "ring":
                    self.assertEqual(own_row(kind, rule, row * 4), own_row(kind, rule, row))
                else:
                    self.assertEqual(own_row(kind, rule, row), own_row("ring", rule, "0" + row + "0" + row[::-1]))


if __name__ == "__main__":
    unittest.main()
