import random
import unittest

from beatlamps.endless import after_endless
from beatlamps.errors import BadPicture, BadRule, Endless
from beatlamps.finite import ahead_endless, always_ahead, shows_ahead_endless
from tests.helper import NO_PICTURES, NO_RULES, RULES, all_polynomials, bent, caught, check_refusals, check_shows
from tests.helper import odd_ones, slow_picture_beat, slow_pictures

FAR = [(), (0, 201), (-101, 100), (-10 ** 30, 10 ** 30), (0, 1, 202), tuple(range(0, 202, 3))]
SMALL = [picture for picture in all_polynomials(6) if picture]


def slow_sources(rule, picture):
    """All pictures from which it comes: they lie within its own places, led along by the offsets."""
    places = range(picture[0] - 6, picture[-1] + 7)
    found = [()]
    # From the right: what a lamp adds at its leftmost place is the last that can be there.
    going = [((), picture)]
    for place in reversed(places):
        further = []
        for other, left in going:
            for lamp in (0, 1):
                rest = odd_ones(left + tuple(place - offset for offset in rule)) if lamp else left
                # No lamp further to the left lights anything to the right of its place less the least offset.
                if not rest or rest[-1] < place - rule[0]:
                    further.append(((place,) + other if lamp else other, rest))
        going = further
    found = [other for other, left in going if left == ()]
    return found


def right_never(rule, picture, marks):
    """Whether these marks bar it, lamp by lamp."""
    least, many = picture[0], picture[-1] - picture[0] + 1
    if not isinstance(marks, str) or len(marks) != many or set(marks) - set("01"):
        return False
    for place in range(least - 12, picture[-1] + 13):
        lights = [place - offset - least for offset in rule]
        if all(0 <= at < many for at in lights) and sum(marks[at] == "1" for at in lights) % 2 == 1:
            return False
    return sum(marks[place - least] == "1" for place in picture) % 2 == 1


def right_ahead(rule, picture, value):
    if not isinstance(value, tuple) or len(value) != 2:
        return False
    if value[0] == "picture":
        other = value[1]
        if not isinstance(other, tuple) or not all(place.__class__ is int for place in other):
            return False
        return other == tuple(sorted(set(other))) and slow_picture_beat(rule, other) == picture
    return value[0] == "never" and right_never(rule, picture, value[1])


class AheadEndless(unittest.TestCase):
    def test_small_pictures_tried(self):
        for rule in RULES:
            for picture in SMALL:
                found = slow_sources(rule, picture)
                self.assertLessEqual(len(found), 1)
                told = ahead_endless(rule, picture)
                self.assertEqual(told[0], "picture" if found else "never", (rule, picture))
                self.assertTrue(right_ahead(rule, picture, told), (rule, picture))
                if found:
                    self.assertEqual(told, ("picture", found[0]))

    def test_what_comes_from_pictures(self):
        chance = random.Random(7)
        for rule in RULES:
            for picture in [(0,), (-10 ** 30 + 20, -10 ** 30 + 25), (10 ** 30 - 99, 10 ** 30 - 9), tuple(range(150)),
                            tuple(sorted(chance.sample(range(180), 60)))]:
                made = slow_picture_beat(rule, picture)
                self.assertEqual(ahead_endless(rule, made), ("picture", picture))
                bent_one = odd_ones(made + (made[0] + 1,))
                told = ahead_endless(rule, bent_one)
                self.assertTrue(right_ahead(rule, bent_one, told), (rule, bent_one))

    def test_200_places_apart(self):
        for rule in RULES:
            for picture in [(0, 200), (-10 ** 30, -10 ** 30 + 200), tuple(range(201)), (0, 3, 77, 101, 200)]:
                self.assertTrue(right_ahead(rule, picture, ahead_endless(rule, picture)))

    def test_pictures_narrower_than_the_rule(self):
        self.assertEqual(ahead_endless((0, 1), (5,)), ("never", "1"))
        self.assertEqual(ahead_endless((-6, 6), (5,)), ("never", "1"))
        told = ahead_endless((-6, 6), (0, 3, 11))
        self.assertEqual(told[0], "never")
        self.assertTrue(right_never((-6, 6), (0, 3, 11), told[1]))
        self.assertEqual(ahead_endless((-6, 6), (0, 12)), ("picture", (6,)))

    def test_led_along(self):
        for rule in RULES:
            for picture in SMALL[::7]:
                word, told = ahead_endless(rule, picture)
                moved = tuple(place + 10 ** 20 for place in picture)
                expected = tuple(place + 10 ** 20 for place in told) if word == "picture" else told
                self.assertEqual(ahead_endless(rule, moved), (word, expected))

    def test_shows(self):
        for rule in RULES[::2] + [(0, 1), (-1, 0, 1)]:
            for picture in [(0, 3), (0,), (1, 2, 4), (-2, 5), (0, 1, 3, 4)]:
                marks = [bin(at)[3:] for at in range(2 ** (picture[-1] - picture[0] + 1), 2 ** (picture[-1] - picture[0] + 2))]
                values = [ahead_endless(rule, picture)] + [("never", text) for text in marks]
                values += [("picture", other) for other in slow_sources(rule, picture)]
                check_shows(self, shows_ahead_endless, (rule, picture), right_ahead, values)

    def test_shows_takes_other_marks(self):
        taken = [text for text in ("1000", "0001", "1111", "0110", "0111", "0100") if
                 shows_ahead_endless((0, 1), (0, 1, 3), ("never", text))]
        self.assertEqual(taken, ["1111"])
        self.assertEqual(ahead_endless((0, 1), (0, 1, 3)), ("never", "1111"))
        wide = [text for text in ("100", "010", "001", "111", "110", "011") if
                shows_ahead_endless((0, 3), (0, 2), ("never", text))]
        self.assertEqual(wide, ["100", "001", "110", "011"])

    def test_shows_takes_no_marks_of_other_signs(self):
        self.assertIs(shows_ahead_endless((0, 1), (0, 2, 3), ("never", "1111")), True)
        for text in ("1_11", "+111", "-111", " 111", "111 ", "111\n", "0b11", "1112", "xxxx", "11l1", "_111"):
            self.assertIs(shows_ahead_endless((0, 1), (0, 2, 3), ("never", text)), False, text)

    def test_shows_far_ones(self):
        told = ahead_endless((0, 1), (0, 200))
        self.assertEqual(told, ("picture", tuple(range(1, 201))))
        self.assertIs(shows_ahead_endless((0, 1), (0, 200), told), True)
        self.assertIs(shows_ahead_endless((0, 1), (0, 200), ("picture", tuple(range(1, 202)))), False)
        never = ahead_endless((0, 1), (0, 100, 200))
        self.assertIs(shows_ahead_endless((0, 1), (0, 100, 200), never), True)
        for other in bent(never):
            self.assertIs(shows_ahead_endless((0, 1), (0, 100, 200), other), right_ahead((0, 1), (0, 100, 200), other))

    def test_refusals(self):
        wrongs = [("rule", BadRule, NO_RULES), ("picture", BadPicture, NO_PICTURES + FAR)]
        good = {"rule": (-1, 1), "picture": (0, 4)}
        check_refusals(self, ahead_endless, good, wrongs)
        check_refusals(self, shows_ahead_endless, {**good, "value": None}, wrongs)


class AlwaysAhead(unittest.TestCase):
    def test_small_pictures_tried(self):
        for rule in RULES:
            if len(rule) == 1:
                continue
            for picture in SMALL:
                beats, going = 0, picture
                while slow_sources(rule, going):
                    beats, going = beats + 1, slow_sources(rule, going)[0]
                self.assertEqual(always_ahead(rule, picture), (beats, going), (rule, picture))

    def test_many_beats(self):
        for rule, most in [((0, 1), 100), ((-1, 0, 1), 90), ((-6, 6), 16), ((-6, -5), 199), ((-2, 0, 3), 40)]:
            pictures = slow_pictures(rule, (10 ** 29,), most)
            for beats in (0, 1, 7, most):
                self.assertEqual(always_ahead(rule, pictures[beats]), (beats, (10 ** 29,)))
                told = always_ahead(rule, pictures[beats])
                self.assertEqual(after_endless(rule, told[1], min(beats, 64)), pictures[min(beats, 64)])

    def test_200_beats(self):
        picture = slow_pictures((0, 1), (0,), 200)[200]
        self.assertEqual(picture[-1] - picture[0], 200)
        self.assertEqual(always_ahead((0, 1), picture), (200, (0,)))

    def test_refusals(self):
        good = {"rule": (-1, 1), "picture": (0, 4)}
        check_refusals(self, always_ahead, good, [("rule", BadRule, NO_RULES),
                                                  ("picture", BadPicture, NO_PICTURES + FAR)])
        for rule in [(0,), (-6,), (6,), (1,)]:
            for picture in [(0,), (0, 4), (5, 6)]:
                error = caught(always_ahead, rule, picture)
                self.assertIs(error.__class__, Endless)
                self.assertIs(error.value, rule)
            self.assertIs(caught(always_ahead, rule, ()).__class__, BadPicture)
            self.assertIs(caught(always_ahead, rule, (0, 201)).__class__, BadPicture)


if __name__ == "__main__":
    unittest.main()
