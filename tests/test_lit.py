import random
import unittest
from itertools import combinations

from beatlamps.errors import BadBeats, BadRule, TooWide
from beatlamps.lit import alike_lit, lit, most_lit
from tests.helper import NO_BEATS, NO_RULES, caught, check_refusals, slow_far_picture, slow_pictures

NARROW = [(0,), (-6,), (6,), (-1, 1), (0, 1), (-1, 0, 1), (0, 6), (-3, 3), (-3, 0, 3), (-6, -5, -2, 0), (0, 1, 3, 4, 6),
          tuple(range(7)), tuple(range(-6, 1)), (-2, 0, 3), (1, 2, 4, 5)]
WIDE = [(-6, 1), (-1, 0, 6), (-6, 6), (-4, 0, 3), tuple(range(-6, 7)), (-3, 4), (-5, 2)]
UP_TO_4 = [tuple(sorted(set(some + (0,)))) for many in range(5) for some in combinations(range(1, 5), many)]


class Lit(unittest.TestCase):
    def test_counted_beat_by_beat(self):
        for rule in NARROW:
            for beats, picture in enumerate(slow_pictures(rule, (0,), 70)):
                self.assertEqual(lit(rule, beats), len(picture), (rule, beats))

    def test_many_beats_with_few_figures(self):
        chance = random.Random(4)
        for rule in NARROW:
            for _ in range(5):
                beats = sum(2 ** at for at in chance.sample(range(99), 4))
                self.assertEqual(lit(rule, beats), len(slow_far_picture(rule, (0,), beats)))

    def test_beats_of_thirty_figures(self):
        chance = random.Random(5)
        for beats in [10 ** 30, 2 ** 99 - 1, 2 ** 99, 2 ** 99 + 1] + [chance.randrange(10 ** 30) for _ in range(30)]:
            self.assertEqual(lit((0, 1), beats), 2 ** bin(beats).count("1"))
            self.assertEqual(lit((-3, 3), beats), 2 ** bin(beats).count("1"))
            self.assertEqual(lit((5,), beats), 1)
            for rule in NARROW:
                self.assertEqual(lit(rule, 2 * (beats // 2)), lit(rule, beats // 2))
                # As a rule and the same turned about, or led along, do.
                self.assertEqual(lit(rule, beats), lit(tuple(-offset for offset in reversed(rule)), beats))
        self.assertEqual(lit((-1, 0, 1), 2 ** 99), 3)
        # 2 ** k - 1 beats of the three: so many as (2 ** (k + 2) - (-1) ** k) / 3.
        for doublings in range(100):
            expected = (2 ** (doublings + 2) - (-1) ** doublings) // 3
            self.assertEqual(lit((-1, 0, 1), 2 ** doublings - 1), expected)

    def test_widths(self):
        for rule in WIDE:
            self.assertEqual((caught(lit, rule, 3).__class__, caught(lit, rule, 3).value), (TooWide, 6))
            self.assertEqual(caught(most_lit, rule, 3).value, 6)
        self.assertEqual([lit((0, 6), 3), lit((-6, 0), 3), lit((-3, -2, 3), 2)], [4, 4, 3])

    def test_refusals(self):
        check_refusals(self, lit, {"rule": (-1, 1), "beats": 10 ** 30},
                       [("rule", BadRule, NO_RULES), ("rule", TooWide, WIDE, 6), ("beats", BadBeats, NO_BEATS)])


class MostLit(unittest.TestCase):
    def test_counted_beat_by_beat(self):
        for rule in NARROW:
            counts = [len(picture) for picture in slow_pictures(rule, (0,), 127)]
            for doublings in range(8):
                number = max(counts[:2 ** doublings])
                self.assertEqual(most_lit(rule, doublings), (number, counts.index(number)), (rule, doublings))

    def test_nine_doublings(self):
        for rule in [(0, 1), (-1, 0, 1), (0, 1, 3, 4, 6), (4,)]:
            counts = [lit(rule, beats) for beats in range(512)]
            self.assertEqual(most_lit(rule, 9), (max(counts), counts.index(max(counts))))
            self.assertEqual(most_lit(rule, 8), (max(counts[:256]), counts.index(max(counts[:256]))))
        self.assertEqual(most_lit((0, 1), 9), (512, 511))
        self.assertEqual(most_lit((3,), 9), (1, 0))
        self.assertEqual(most_lit(tuple(range(7)), 0), (1, 0))

    def test_refusals(self):
        check_refusals(self, most_lit, {"rule": (-1, 1), "doublings": 9},
                       [("rule", BadRule, NO_RULES), ("rule", TooWide, WIDE, 6),
                        ("doublings", BadBeats, NO_BEATS + [10, 11, 10 ** 30])])


class AlikeLit(unittest.TestCase):
    def test_all_pairs_of_rules(self):
        counts = {rule: [len(picture) for picture in slow_pictures(rule, (0,), 80)] for rule in UP_TO_4}
        for one in UP_TO_4:
            for other in UP_TO_4:
                unlike = [beats for beats in range(81) if counts[one][beats] != counts[other][beats]]
                expected = ("beats", unlike[0]) if unlike else ("always",)
                self.assertEqual(alike_lit(one, other), expected, (one, other))
        self.assertIn(("beats", 3), [alike_lit(one, other) for one in UP_TO_4 for other in UP_TO_4])

    def test_always(self):
        chance = random.Random(6)
        alike = [(one, other) for one in UP_TO_4 for other in UP_TO_4 if alike_lit(one, other) == ("always",)]
        self.assertGreater(len([one for one, other in alike if one != other]), 4)
        for one, other in alike:
            for _ in range(5):
                beats = chance.randrange(10 ** 30)
                self.assertEqual(lit(one, beats), lit(other, beats))

    def test_led_along_turned_about_and_farther(self):
        self.assertEqual(alike_lit((-6, -5), (5, 6)), ("always",))
        self.assertEqual(alike_lit((-2, -1, 2), (-2, 1, 2)), ("always",))
        self.assertEqual(alike_lit((0, 1, 2), (-2, 0, 2)), ("always",))
        self.assertEqual(alike_lit((-6,), (6,)), ("always",))
        self.assertEqual(alike_lit((-6,), (2, 6)), ("beats", 1))

    def test_refusals(self):
        wide = [(-6, -1), (0, 5), (-2, 0, 3), (-6, 6), (0, 6), tuple(range(7))]
        check_refusals(self, alike_lit, {"one": (-1, 3), "other": (2, 6)},
                       [("one", BadRule, NO_RULES), ("other", BadRule, NO_RULES), ("one", TooWide, wide, 4),
                        ("other", TooWide, wide, 4)])


if __name__ == "__main__":
    unittest.main()
