import random
import unittest

from beatlamps.endless import after_endless, copied, lamp
from beatlamps.errors import BadBeats, BadPicture, BadPlace, BadRule
from tests.helper import NO_BEATS, NO_INTEGERS, NO_PICTURES, NO_RULES, RULES, caught, check_refusals, odd_ones
from tests.helper import slow_far_picture, slow_picture_beat, slow_pictures

PICTURES = [(), (0,), (-7,), (0, 1), (0, 5), (-3, 0, 4), (-10 ** 30, 10 ** 30), (10 ** 30 - 3, 10 ** 30 - 1, 10 ** 30),
            (-10 ** 30, -10 ** 30 + 2, 0), tuple(range(-4, 9, 2)), tuple(range(1, 30, 3))]


class AfterEndless(unittest.TestCase):
    def test_beat_by_beat(self):
        for rule in RULES:
            for picture in PICTURES:
                for beats, expected in enumerate(slow_pictures(rule, picture, 9)):
                    self.assertEqual(after_endless(rule, picture, beats), expected, (rule, picture, beats))

    def test_up_to_64_beats(self):
        for rule in RULES[::3] + [(0, 1), (-1, 0, 1), (-6, -5, 0, 6)]:
            expected = slow_pictures(rule, (-2, 0, 10 ** 20), 64)
            for beats in (31, 32, 33, 62, 63, 64):
                self.assertEqual(after_endless(rule, (-2, 0, 10 ** 20), beats), expected[beats])

    def test_offsets_lead_the_other_way(self):
        self.assertEqual(after_endless((1,), (0, 3), 5), (-5, -2))
        self.assertEqual(after_endless((-6,), (0, 3), 64), (384, 387))

    def test_pictures_of_250_lamps_at_the_ends(self):
        picture = tuple(range(-10 ** 30, -10 ** 30 + 249)) + (10 ** 30,)
        self.assertEqual(after_endless((-6, 0, 6), picture, 2), slow_pictures((-6, 0, 6), picture, 2)[2])
        self.assertEqual(after_endless((-6, 0, 6), picture, 0), picture)
        far = tuple(at * 10 ** 27 for at in range(250))
        self.assertEqual(after_endless((0, 1), far, 64), tuple(sorted(far + tuple(at - 64 for at in far))))

    def test_sums_and_pictures_turned_about_and_led_along(self):
        for rule in RULES:
            for one, other in zip(PICTURES, PICTURES[1:]):
                for beats in (1, 7, 13):
                    told, further = after_endless(rule, one, beats), after_endless(rule, other, beats)
                    self.assertEqual(after_endless(rule, odd_ones(one + other), beats), odd_ones(told + further))
                    contrary = tuple(-at for at in reversed(told))
                    turned = tuple(-at for at in reversed(rule))
                    self.assertEqual(after_endless(turned, tuple(-at for at in reversed(one)), beats), contrary)
            moved = after_endless(rule, (10 ** 29, 10 ** 29 + 3), 6)
            self.assertEqual(moved, tuple(at + 10 ** 29 for at in after_endless(rule, (0, 3), 6)))

    def test_what_was_told_may_be_handed_in_again(self):
        told = after_endless((-6, 0, 1, 6), tuple(range(0, 250 * 999, 999)), 63)
        self.assertGreater(len(told), 250)
        self.assertIs(caught(after_endless, (0, 1), told, 1).value, told)
        self.assertEqual(after_endless((-6,), (10 ** 30,), 1), (10 ** 30 + 6,))
        self.assertEqual(caught(after_endless, (0,), (10 ** 30 + 6,), 1).value, (10 ** 30 + 6,))

    def test_refusals(self):
        check_refusals(self, after_endless, {"rule": (-1, 1), "picture": (0, 4), "beats": 3},
                       [("rule", BadRule, NO_RULES), ("picture", BadPicture, NO_PICTURES),
                        ("beats", BadBeats, NO_BEATS + [65, 66, 10 ** 30])])


class Copied(unittest.TestCase):
    def test_small_doublings(self):
        for rule in RULES:
            for picture in PICTURES:
                expected = slow_pictures(rule, picture, 16)
                for doublings in range(5):
                    self.assertEqual(copied(rule, picture, doublings), expected[2 ** doublings])

    def test_all_doublings(self):
        for rule in RULES[:8]:
            for doublings in range(101):
                expected = slow_far_picture(rule, (-1, 0, 2 ** 99), 2 ** doublings)
                self.assertEqual(copied(rule, (-1, 0, 2 ** 99), doublings), expected)

    def test_copies_that_meet_are_gone(self):
        self.assertEqual(copied((0, 1), (0, 2 ** 99), 99), (-2 ** 99, 2 ** 99))
        self.assertEqual(copied((0, 1), (), 100), ())
        self.assertEqual(copied((-6, 6), (0,), 100), (-6 * 2 ** 100, 6 * 2 ** 100))

    def test_250_lamps(self):
        picture = tuple(range(250))
        self.assertEqual(copied((-1, 0, 1), picture, 3), slow_far_picture((-1, 0, 1), picture, 8))

    def test_refusals(self):
        check_refusals(self, copied, {"rule": (-1, 1), "picture": (0, 4), "doublings": 100},
                       [("rule", BadRule, NO_RULES), ("picture", BadPicture, NO_PICTURES),
                        ("doublings", BadBeats, NO_BEATS + [101, 102, 10 ** 30])])


class Lamp(unittest.TestCase):
    def test_beat_by_beat(self):
        for rule in RULES:
            for picture in [(), (0,), (0, 1), (-3, 0, 4), tuple(range(-4, 9, 2))]:
                for beats, expected in enumerate(slow_pictures(rule, picture, 8)):
                    for place in range(-60, 61, 1):
                        self.assertIs(lamp(rule, picture, beats, place), place in expected, (rule, picture, beats))

    def test_places_far_away(self):
        for rule in RULES:
            for beats, expected in enumerate(slow_pictures(rule, (-10 ** 30, 10 ** 30), 5)):
                for end in (-10 ** 30, 10 ** 30):
                    for place in range(end - 32, end + 33):
                        self.assertIs(lamp(rule, (-10 ** 30, 10 ** 30), beats, place), place in expected)
            for place in (10 ** 39, -10 ** 39, 8 * 10 ** 30, -8 * 10 ** 30):
                self.assertIs(lamp(rule, (-10 ** 30, 10 ** 30), 10 ** 30, place), False)

    def test_many_beats(self):
        chance = random.Random(1)
        for rule in RULES:
            for _ in range(8):
                beats = sum(2 ** at for at in chance.sample(range(99), 3))
                picture = tuple(sorted(chance.sample(range(-50, 50), 3)))
                expected = slow_far_picture(rule, picture, beats)
                for place in list(expected[::31]) + [at + step for at in expected[::53] for step in (-1, 1)] + [0]:
                    self.assertIs(lamp(rule, picture, beats, place), place in expected)

    def test_all_beats_of_thirty_figures(self):
        self.assertIs(lamp((-1, 1), (0,), 2 ** 99, 2 ** 99), True)
        self.assertIs(lamp((-1, 1), (0,), 2 ** 99, -2 ** 99), True)
        self.assertIs(lamp((-1, 1), (0,), 2 ** 99, 0), False)
        # Between x + 1 and its powers: the lamp is on just if the figures of the place are among those of the beats.
        chance = random.Random(2)
        for _ in range(200):
            beats = chance.randrange(10 ** 30)
            place = chance.choice([chance.randrange(10 ** 30), beats & chance.randrange(10 ** 30)])
            self.assertIs(lamp((0, 1), (0,), beats, -place), place & ~beats == 0)
            self.assertIs(lamp((-1, 0), (0,), beats, place), place & ~beats == 0)
        self.assertIs(lamp((6,), (5,), 10 ** 30, 5 - 6 * 10 ** 30), True)
        self.assertIs(lamp((6,), (5,), 10 ** 30, 6 - 6 * 10 ** 30), False)

    def test_one_beat_more(self):
        chance = random.Random(3)
        for rule in RULES:
            for _ in range(4):
                beats = chance.randrange(10 ** 30)
                picture = tuple(sorted(chance.sample(range(-9, 10), 4)))
                place = chance.randrange(-beats, beats)
                further = slow_picture_beat(rule, picture)
                self.assertEqual(lamp(rule, picture, beats + 1, place), lamp(rule, further, beats, place))
                around = [lamp(rule, picture, beats, place + offset) for offset in rule]
                self.assertEqual(lamp(rule, picture, beats + 1, place), sum(around) % 2 == 1)

    def test_250_lamps_at_10_to_the_30_beats(self):
        picture = tuple(range(0, 250 * 10 ** 27, 10 ** 27))
        for place in (0, 5 * 10 ** 26, -10 ** 30):
            alone = [lamp((-1, 0, 1), (at,), 10 ** 30, place) for at in picture]
            self.assertIs(lamp((-1, 0, 1), picture, 10 ** 30, place), sum(alone) % 2 == 1)

    def test_refusals(self):
        check_refusals(self, lamp, {"rule": (-1, 1), "picture": (0, 4), "beats": 10 ** 30, "place": -10 ** 39},
                       [("rule", BadRule, NO_RULES), ("picture", BadPicture, NO_PICTURES), ("beats", BadBeats, NO_BEATS),
                        ("place", BadPlace, NO_INTEGERS)])


if __name__ == "__main__":
    unittest.main()
