import unittest

from beatlamps.darkening import darkens, same_lost, shows_darkens
from beatlamps.errors import BadRule
from beatlamps.gardens import lost
from beatlamps.rules import turned
from tests.helper import NO_RULES, RULES, STRANGE, all_polynomials, all_rows, check_refusals, degree, euclid
from tests.helper import often, slow_is_plain, slow_measure, slow_quotient, slow_rest, slow_ring_beat, slow_times

POWERS = [one for one in all_polynomials(4) if one and one[0] == 0]
PLAIN = [one for one in all_polynomials(4) if slow_is_plain(one)]
# All that polynomials of degree 4 have in common with x to a size, plus 1, comes again by lesser sizes than this.
MANY = 64
GREAT = [(-6, -5, -2, 0, 6), (-6, 6), (-6, 0, 6), (-6, -2, 2, 6), tuple(range(-6, 7)), (-6, -4, -2, 0, 2, 4, 6),
         (-6, -3, 0, 3, 6), (-6, -5), (0,), (-3, 3), (-2, 0, 2), (-6, 4)]


def powers_of(rule):
    return tuple(offset - rule[0] for offset in rule)


def slow_darkens(one, other, plain, sizes):
    """All right results for two polynomials."""
    for size in sizes:
        both = euclid(one, (0, size))
        if slow_rest(other, both):
            return [("size", size, factor, often(factor, both)) for factor in plain
                    if degree(factor) <= degree(both) and often(factor, both) > often(factor, other)]
    return [("always", slow_quotient(other, one))]


class Darkens(unittest.TestCase):
    def test_refusals(self):
        good = {"one": (-6, 0, 6), "other": (0, 1)}
        wrong = [("one", BadRule, NO_RULES), ("other", BadRule, NO_RULES)]
        check_refusals(self, darkens, good, wrong)
        check_refusals(self, same_lost, good, wrong)
        check_refusals(self, shows_darkens, {**good, "value": None}, wrong)

    def test_small_rules(self):
        for one in POWERS:
            for other in POWERS:
                right = slow_darkens(one, other, PLAIN, range(1, MANY))
                for least, further in ((0, 0), (-6, -1), (-2, 2)):
                    first, second = [tuple(at + by for at in powers) for powers, by in ((one, least), (other, further))]
                    told = darkens(first, second)
                    self.assertIn(told, right)
                    for value in right:
                        self.assertIs(shows_darkens(first, second, value), True)

    def test_by_all_rows(self):
        for one in RULES:
            for other in RULES:
                told = darkens(one, other)
                for size in range(1, 6):
                    rows = [row for row in all_rows(size) if "1" not in slow_ring_beat(one, row)]
                    dark = all("1" not in slow_ring_beat(other, row) for row in rows)
                    if told[0] == "always" or size < told[1]:
                        self.assertTrue(dark)
                    elif size == told[1]:
                        self.assertFalse(dark)

    def test_great_rules(self):
        for one in GREAT:
            for other in GREAT + [(-1, 0, 1), (-6, -5, -4)]:
                first, second = powers_of(one), powers_of(other)
                told = darkens(one, other)
                self.assertIs(shows_darkens(one, other, told), True)
                if told[0] == "always":
                    self.assertEqual(slow_times(told[1], first), second)
                    continue
                _, size, factor, times = told
                both = euclid(first, (0, size))
                self.assertTrue(degree(factor) > 5 or slow_is_plain(factor))
                self.assertEqual(often(factor, both), times)
                self.assertGreater(times, often(factor, second))
                for less in range(1, min(size, 200)):
                    self.assertEqual(slow_rest(second, euclid(first, (0, less))), ())

    def test_edges(self):
        self.assertEqual(darkens((0,), (-6, 6)), ("always", (0, 12)))
        self.assertEqual(darkens((3,), (-2,)), ("always", (0,)))
        self.assertEqual(darkens((-6, 6), (-6, 6)), ("always", (0,)))
        self.assertEqual(darkens((-6, 6), (1,)), ("size", 1, (0, 1), 1))
        self.assertEqual(darkens((-6, 6), (-3, 3)), ("size", 4, (0, 1), 4))
        self.assertEqual(darkens((-6, 2), (-2, 2)), ("size", 8, (0, 1), 8))
        self.assertEqual(darkens((0, 1, 4), (0,)), ("size", 15, (0, 1, 4), 1))

    def test_shows_all_small_values(self):
        for one, other in (((0, 3), (0,)), ((-3, 3), (0, 1)), ((-3, 3), (-2, 0)), ((-6, -2, -1), (1, 2)), ((0, 2), (0, 1))):
            size = darkens(one, other)[1]
            both = euclid(powers_of(one), (0, size))
            for factor in all_polynomials(3):
                for times in range(4):
                    right = slow_is_plain(factor) and often(factor, both) == times > often(factor, powers_of(other))
                    self.assertIs(shows_darkens(one, other, ("size", size, factor, times)), right)
                    for wrong in (size - 1, size + 1, 2 * size):
                        self.assertIs(shows_darkens(one, other, ("size", wrong, factor, times)), False)

    def test_shows_two_factors(self):
        # x ** 7 + 1 has two factors of measure 7, which are each other turned about.
        one, other = (0, 1, 2, 3, 4, 5, 6), (0,)
        for factor in ((0, 1, 3), (0, 2, 3)):
            self.assertIs(shows_darkens(one, other, ("size", 7, factor, 1)), True)
            self.assertIs(shows_darkens(one, other, ("size", 7, factor, 2)), False)
            self.assertIs(shows_darkens(one, other, ("size", 14, factor, 1)), False)
        self.assertIs(shows_darkens(one, (0, 1, 3), ("size", 7, (0, 1, 3), 1)), False)
        self.assertIs(shows_darkens(one, (0, 1, 3), ("size", 7, (0, 2, 3), 1)), True)

    def test_shows_any_value(self):
        always, size = ("always", (0, 1)), ("size", 2, (0, 1), 2)
        self.assertIs(shows_darkens((0, 1), (0, 2), always), True)
        bent = [list(always), ("always",), ("always", [0, 1]), ("always", (0, True)), ("always", (False, 1)), "always",
                ("always", (0,)), ("always", ()), ("always", (1, 0)), ("always", (0, 1), 0), ("Always", (0, 1)),
                ("size", (0, 1)), (("always", (0, 1)),), ((0, 1), "always"), ("always", "01"), ("always", None), size]
        for value in bent + STRANGE:
            self.assertIs(shows_darkens((0, 1), (0, 2), value), False, value)
        self.assertIs(shows_darkens((0, 2), (0, 1), size), True)
        bent = [list(size), size[:3], size + (0,), ("size", 2, (0, 1), 1), ("size", 2, (0, 1), 3), ("size", 4, (0, 1), 2),
                ("size", 1, (0, 1), 2), ("size", "2", (0, 1), 2), ("size", 2, [0, 1], 2), ("size", 2, (0, True), 2),
                ("size", 2, (0, 2), 1), ("size", 2, (0,), 2), ("size", 2, (), 2), ("size", 2, (0, 1), "2"), "size",
                ("size", 2, (0, 1), None), ("size", 2, None, 2), ("size", None, (0, 1), 2), ("sizes", 2, (0, 1), 2),
                ("always", 2, (0, 1), 2), ("size", 2, (1, 0), 2), ("size", 2, (0, 1), (2,)), ("size", (2,), (0, 1), 2),
                ("size", 2, ((0, 1),), 2), ("size", 2, {0: 1}, 2), (None, 2, (0, 1), 2), always]
        for value in bent + STRANGE:
            self.assertIs(shows_darkens((0, 2), (0, 1), value), False, value)
        for value in (("size", True, (0, 1), 1), ("size", 1, (0, 1), True), ("size", 1, (False, 1), 1),
                      ("size", 1, (0, True), 1), ("size", True, (False, True), True)):
            self.assertIs(shows_darkens((0, 1), (0,), ("size", 1, (0, 1), 1)), True)
            self.assertIs(shows_darkens((0, 1), (0,), value), False)

    def test_turned_about(self):
        for one in RULES:
            for other in RULES:
                told, about = darkens(one, other), darkens(turned(one), turned(other))
                if told[0] == "always":
                    self.assertEqual(about, ("always", tuple(told[1][-1] - at for at in reversed(told[1]))))
                else:
                    factor = tuple(told[2][-1] - at for at in reversed(told[2]))
                    value = ("size", told[1], factor, told[3])
                    self.assertIs(shows_darkens(turned(one), turned(other), value), True)


class SameLost(unittest.TestCase):
    def test_small_rules(self):
        losts = {one: [degree(euclid(one, (0, size))) for size in range(1, MANY)] for one in POWERS}
        for one in POWERS:
            for other in POWERS:
                unlike = [at + 1 for at in range(MANY - 1) if losts[one][at] != losts[other][at]]
                right = ("size", unlike[0]) if unlike else ("always",)
                self.assertEqual(same_lost(tuple(at - 6 for at in one), other), right)

    def test_great_rules(self):
        for one in RULES + GREAT:
            for other in RULES + GREAT:
                told = same_lost(one, other)
                for size in range(1, 25):
                    if told == ("always",) or size < told[1]:
                        self.assertEqual(lost("ring", one, size), lost("ring", other, size))
                    elif size == told[1]:
                        self.assertNotEqual(lost("ring", one, size), lost("ring", other, size))
                if told != ("always",):
                    unlike = [degree(euclid(powers_of(rule), (0, told[1]))) for rule in (one, other)]
                    self.assertNotEqual(unlike[0], unlike[1])

    def test_edges(self):
        for rule in RULES:
            self.assertEqual(same_lost(rule, rule), ("always",))
            self.assertEqual(same_lost(rule, turned(rule)), ("always",))
        self.assertEqual(same_lost((0,), (6,)), ("always",))
        self.assertEqual(same_lost((0,), (0, 1)), ("size", 1))
        self.assertEqual(same_lost((-6, 6), (-6, 0, 6)), ("size", 1))
        self.assertEqual(same_lost((0, 1, 4), (0,)), ("size", 15))
        self.assertEqual(same_lost((-4, 4), (-2, 2)), ("size", 8))
        self.assertEqual(same_lost((0, 1, 3, 4), (0, 4)), ("size", 3))
        self.assertEqual(same_lost((0, 1, 4), (0, 1, 2, 3, 4)), ("size", 5))
        self.assertEqual(same_lost((-6, -5, -2, 0, 6), (0,)), ("size", slow_measure((0, 1, 4, 6, 12))))


if __name__ == "__main__":
    unittest.main()
