import unittest

from beatlamps.errors import BadBeats, BadKind, BadRow, BadRule, BadSize, NotEven, OtherSize
from beatlamps.rows import after, beat_offsets, summed, unfolded, wall_polynomial
from beatlamps.rules import in_cross, turned
from tests.helper import EVEN_RULES, NO_BEATS, NO_INTEGERS, NO_KINDS, NO_ROW_SIZES, NO_ROWS, NO_RULES, RULES, SOME_EVEN
from tests.helper import UNEVEN, all_polynomials, all_rows, check_refusals, kinds_and_rules, slow_after, slow_beat
from tests.helper import slow_long_after, slow_orbit, slow_plus, slow_ring_beat, slow_sum, slow_times, slow_unfolded

GREAT_ROWS = ["1" + "0" * 23, "0" * 23 + "1", "1" * 24, "110100100010000100000101", "01" * 12, "10011" * 4]
MANY = [2 ** 64 - 1, 10 ** 20 + 7, 10 ** 30 - 1, 10 ** 30]


class After(unittest.TestCase):
    def test_refusals(self):
        for kind, rule in (("ring", (0, 1)), ("walls", (-6, 6))):
            check_refusals(self, after, {"kind": kind, "rule": rule, "row": "0" * 24, "beats": 0},
                           [("kind", BadKind, NO_KINDS), ("rule", BadRule, NO_RULES)]
                           + [("rule", NotEven, UNEVEN)] * (kind == "walls")
                           + [("row", BadRow, NO_ROWS), ("beats", BadBeats, NO_BEATS)])

    def test_all_even_rules_between_near_walls(self):
        for rule in EVEN_RULES:
            for size in range(1, 5):
                for row in all_rows(size):
                    self.assertEqual(after("walls", rule, row, 1), slow_beat("walls", rule, row))

    def test_all_rules_on_small_rings(self):
        for powers in all_polynomials(12)[1::37]:
            rule = tuple(at - 6 for at in powers)
            for size in range(1, 5):
                for row in all_rows(size):
                    self.assertEqual(after("ring", rule, row, 1), slow_beat("ring", rule, row))

    def test_beats_one_by_one(self):
        for kind, rule in kinds_and_rules():
            for row in GREAT_ROWS + ["1", "0", "10", "11", "011", "1000000"]:
                going = row
                for beats in range(6):
                    self.assertEqual(after(kind, rule, row, beats), going)
                    going = slow_beat(kind, rule, going)

    def test_the_cross_between_walls_is_dark_beyond(self):
        for size in range(1, 8):
            for row in all_rows(size):
                beyond = "0" + row + "0"
                right = "".join(str(int(beyond[at] != beyond[at + 2])) for at in range(size))
                self.assertEqual(after("walls", (-1, 1), row, 1), right)

    def test_many_beats_by_going_round(self):
        for kind, rule in kinds_and_rules():
            for row in ("1", "01", "110", "10010", "011010"):
                rows, tail = slow_orbit(kind, rule, row)
                for beats in MANY:
                    at = beats if beats < tail else tail + (beats - tail) % (len(rows) - tail)
                    self.assertEqual(after(kind, rule, row, beats), rows[at])

    def test_many_beats_of_great_rows(self):
        for kind, rule in kinds_and_rules():
            for row in GREAT_ROWS:
                for beats in MANY:
                    self.assertEqual(after(kind, rule, row, beats), slow_long_after(kind, rule, row, beats))

    def test_the_slow_way_agrees_with_itself(self):
        for kind, rule in kinds_and_rules():
            for beats in range(12):
                self.assertEqual(slow_long_after(kind, rule, "1101000", beats), slow_after(kind, rule, "1101000", beats))

    def test_edges(self):
        self.assertEqual(after("ring", (-6, 6), "1", 1), "0")
        self.assertEqual(after("ring", (-6, 0, 6), "1", 10 ** 30), "1")
        self.assertEqual(after("ring", (-1, 1), "10", 1), "00")
        self.assertEqual(after("walls", (-1, 1), "1", 1), "0")
        self.assertEqual(after("walls", (-6, 6), "1", 1), "0")
        self.assertEqual(after("walls", (-1, 1), "1" * 24, 0), "1" * 24)
        self.assertEqual(after("ring", (0, 1), "0" * 24, 10 ** 30), "0" * 24)


class Guarantees(unittest.TestCase):
    def test_sums(self):
        for kind, rule in kinds_and_rules():
            for beats in (0, 1, 5, 10 ** 30):
                for one, other in zip(GREAT_ROWS[:5], GREAT_ROWS[1:5]):
                    both = after(kind, rule, summed(one, other), beats)
                    self.assertEqual(both, summed(after(kind, rule, one, beats), after(kind, rule, other, beats)))

    def test_repeated_rows(self):
        for rule in RULES:
            for row in ("1", "10", "110", "01101", "11010000"):
                for times in range(2, 24 // len(row) + 1):
                    for beats in (1, 3, 10 ** 30):
                        self.assertEqual(after("ring", rule, row * times, beats), after("ring", rule, row, beats) * times)

    def test_unfolded_rows(self):
        for rule in SOME_EVEN:
            for row in ("1", "10", "110", "01101", "11010000", "10000000001"):
                for beats in (1, 3, 10 ** 30):
                    between = after("walls", rule, row, beats)
                    self.assertEqual(unfolded(between), after("ring", rule, unfolded(row), beats))

    def test_turned_about(self):
        for kind, rule in kinds_and_rules():
            for row in GREAT_ROWS:
                for beats in (1, 3, 10 ** 30):
                    there = after(kind, rule, row, beats)
                    self.assertEqual(after(kind, turned(rule), row[::-1], beats), there[::-1])
                    if kind == "ring":
                        for step in (1, 7, 23):
                            round_it = row[step:] + row[:step]
                            self.assertEqual(after(kind, rule, round_it, beats), there[step:] + there[:step])


class Others(unittest.TestCase):
    def test_unfolded(self):
        for size in range(1, 7):
            for row in all_rows(size):
                self.assertEqual(unfolded(row), slow_unfolded(row))
        self.assertEqual(unfolded("1" * 24), "0" + "1" * 24 + "0" + "1" * 24)
        self.assertEqual(unfolded("0"), "0000")
        check_refusals(self, unfolded, {"row": "1" * 24}, [("row", BadRow, NO_ROWS)])

    def test_summed(self):
        for size in range(1, 5):
            for one in all_rows(size):
                for other in all_rows(size):
                    self.assertEqual(summed(one, other), slow_sum(one, other))
        self.assertEqual(summed("1" * 24, "1" * 24), "0" * 24)
        check_refusals(self, summed, {"one": "110", "other": "010"},
                       [("one", BadRow, NO_ROWS), ("other", BadRow, NO_ROWS),
                        ("other", OtherSize, ["1", "11", "0000", "1" * 24])])

    def test_beat_offsets(self):
        for rule in RULES:
            for size in (1, 2, 3, 5, 7, 8, 12, 13, 24):
                for beats in (0, 1, 2, 3, 10 ** 30):
                    offsets = beat_offsets(rule, size, beats)
                    self.assertEqual(offsets, tuple(sorted(set(offsets) & set(range(size)))))
                    for row in ("1" + "0" * (size - 1), "110100110101111000010010"[:size]):
                        self.assertEqual(slow_ring_beat(offsets, row), slow_long_after("ring", rule, row, beats))

    def test_beat_offsets_at_the_edges(self):
        self.assertEqual(beat_offsets((-1, 1), 2, 1), ())
        self.assertEqual(beat_offsets((-6, 6), 12, 1), ())
        self.assertEqual(beat_offsets((-6, 6), 1, 0), (0,))
        self.assertEqual(beat_offsets((-1,), 24, 10 ** 30), ((-10 ** 30) % 24,))
        check_refusals(self, beat_offsets, {"rule": (0, 1), "size": 24, "beats": 10 ** 30},
                       [("rule", BadRule, NO_RULES), ("size", BadSize, NO_ROW_SIZES), ("beats", BadBeats, NO_BEATS)])

    def test_wall_polynomial(self):
        walls = [(0,), (1,)]
        while len(walls) < 25:
            walls.append(slow_plus(slow_times((1,), walls[-1]), walls[-2]))
        self.assertEqual([wall_polynomial(size) for size in range(25)], walls)
        check_refusals(self, wall_polynomial, {"size": 24}, [("size", BadSize, NO_INTEGERS + [-1, 25, 10 ** 30])])

    def test_wall_polynomial_darkens_and_no_lesser_one_does(self):
        for size in range(1, 7):
            rows = ["1" + "0" * (size - 1)]
            for _ in range(size):
                rows.append(slow_beat("walls", (-1, 1), rows[-1]))
            found = []
            for powers in all_polynomials(size)[1:]:
                if not any(sum(int(rows[k][at]) for k in powers) % 2 for at in range(size)):
                    found.append(powers)
            self.assertEqual(found, [wall_polynomial(size)])

    def test_beats_by_the_polynomial_in_the_cross(self):
        for rule in EVEN_RULES[::3]:
            together = "0" * 24
            for beats in in_cross(rule):
                together = summed(together, after("walls", (-1, 1), GREAT_ROWS[3], beats))
            self.assertEqual(together, after("walls", rule, GREAT_ROWS[3], 1))


if __name__ == "__main__":
    unittest.main()
