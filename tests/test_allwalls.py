import unittest
from math import gcd, lcm

from beatlamps.allwalls import darkens_between, first_lost_between, kept_between, losing_between, lost_between
from beatlamps.allwalls import most_lost_between, shows_darkens_between
from beatlamps.errors import BadNumber, BadRule, BadSize, NotEven
from beatlamps.gardens import lost
from tests.helper import EVEN_RULES, NO_INTEGERS, NO_RULES, NO_SIZES_30, SOME_EVEN, STRANGE, UNEVEN, all_polynomials
from tests.helper import all_rows, check_refusals, degree, euclid, odd_ones, often, powers_of_bits, slow_beat, slow_is_plain
from tests.helper import slow_quotient, slow_rest, slow_times, slow_wall_polynomial, slow_wall_rests

MANY = 260
SIZES_30 = [10 ** 30, 10 ** 30 - 1, 2 ** 99 - 1, 3 * 2 ** 90 - 1, 15 * 2 ** 40 * 7 ** 10 - 1, 63 * 65 * 31 * 33 * 10 ** 20 - 1,
            13 * 11 * 9 * 7 * 5 * 2 ** 60 - 1]
NO_NUMBERS = NO_INTEGERS + [0, -1, 7, 12, 10 ** 30]
PLAIN = [one for one in all_polynomials(6) if slow_is_plain(one)]


def slow_rule(powers):
    """So many beats by the cross as the powers tell, all together."""
    total = ()
    for beats in powers:
        offsets = (0,)
        for _ in range(beats):
            offsets = odd_ones([at + by for at in offsets for by in (-1, 1)])
        total = odd_ones(total + offsets)
    return total


POWERS = {slow_rule(powers): powers for powers in all_polynomials(6)[1:]}
SHORT = {rule: powers for rule, powers in POWERS.items() if powers[-1] <= 4}


def slow_losts(powers, many):
    """What is lost, by one more than the size; of 0 and of 1, that there is none."""
    return [0] + [degree(euclid(powers, powers_of_bits(rest))) for rest in slow_wall_rests(powers, many - 1)]


def slow_whole(powers):
    """The least number such that the polynomial divides the wall polynomial of one less."""
    many = 64
    while 0 not in slow_wall_rests(powers, many):
        many *= 2
    return slow_wall_rests(powers, many).index(0) + 1


class AllWalls(unittest.TestCase):
    @classmethod
    def setUpClass(cls):
        cls.losts = {rule: slow_losts(powers, MANY) for rule, powers in POWERS.items()}

    def test_refusals(self):
        first = [("rule", BadRule, NO_RULES), ("rule", NotEven, UNEVEN)]
        for rule in ((0,), (-6, 0, 6)):
            good = {"rule": rule}
            check_refusals(self, losing_between, good, first)
            check_refusals(self, most_lost_between, good, first)
            for size in (1, 10 ** 30):
                check_refusals(self, lost_between, {**good, "size": size}, first + [("size", BadSize, NO_SIZES_30)])
                check_refusals(self, kept_between, {**good, "bound": size}, first + [("bound", BadSize, NO_SIZES_30)])
            for many in (1, 6):
                check_refusals(self, first_lost_between, {**good, "many": many}, first + [("many", BadNumber, NO_NUMBERS)])

    def test_all_even_rules_are_here(self):
        self.assertEqual(sorted(POWERS), sorted(EVEN_RULES))

    def test_lost_between_small_walls(self):
        for rule, right in self.losts.items():
            self.assertEqual([lost_between(rule, size) for size in range(1, MANY - 1)], right[2:])

    def test_lost_between_by_all_rows(self):
        for rule in EVEN_RULES:
            for size in range(1, 6):
                dark = [row for row in all_rows(size) if "1" not in slow_beat("walls", rule, row)]
                self.assertEqual(2 ** lost_between(rule, size), len(dark))
            for size in (11, 23, 24):
                self.assertEqual(lost_between(rule, size), lost("walls", rule, size))

    def test_lost_between_walls_of_thirty_figures(self):
        for rule, right in self.losts.items():
            whole = slow_whole(POWERS[rule])
            self.assertLess(whole, MANY)
            for size in SIZES_30:
                self.assertEqual(lost_between(rule, size), right[gcd(whole, size + 1)])

    def test_losing(self):
        for rule, right in self.losts.items():
            numbers = losing_between(rule)
            self.assertEqual(numbers, tuple(sorted(set(numbers))))
            self.assertFalse([one for one in numbers for other in numbers if one != other and one % other == 0])
            self.assertTrue(all(number >= 2 for number in numbers))
            for number in range(2, MANY):
                self.assertIs(any(number % least == 0 for least in numbers), right[number] > 0)

    def test_first_lost(self):
        for rule, right in self.losts.items():
            for many in range(1, 7):
                sizes = [number - 1 for number in range(2, MANY) if right[number] >= many]
                self.assertEqual(first_lost_between(rule, many), sizes[0] if sizes else None)

    def test_most_lost(self):
        for rule, right in self.losts.items():
            most = (max(right), right.index(max(right)) - 1) if max(right) else (0, 1)
            self.assertEqual(most_lost_between(rule), most)
            self.assertEqual(most[0], POWERS[rule][-1])

    def test_kept(self):
        for rule, right in self.losts.items():
            for bound in (1, 2, 3, 7, 20, 63, 64, MANY - 2):
                self.assertEqual(kept_between(rule, bound), right[2:bound + 2].count(0))

    def test_kept_of_thirty_figures(self):
        for rule, right in self.losts.items():
            around, whole = lcm(*losing_between(rule)), slow_whole(POWERS[rule])
            told = [right[gcd(whole, number)] for number in range(1, around + 1)]
            for bound in (10 ** 30, 10 ** 30 - 1, 2 ** 99):
                many = (bound + 1) // around * told.count(0) + told[:(bound + 1) % around].count(0)
                self.assertEqual(kept_between(rule, bound), many - 1)

    def test_edges(self):
        self.assertEqual((losing_between((0,)), most_lost_between((0,)), first_lost_between((0,), 1)), ((), (0, 1), None))
        self.assertEqual([kept_between((0,), bound) for bound in (1, 2, 10 ** 30)], [1, 2, 10 ** 30])
        self.assertEqual([lost_between((0,), size) for size in (1, 2, 10 ** 30)], [0, 0, 0])
        self.assertEqual((losing_between((-1, 1)), most_lost_between((-1, 1))), ((2,), (1, 1)))
        self.assertEqual([kept_between((-1, 1), bound) for bound in (1, 2, 10 ** 30)], [0, 1, 5 * 10 ** 29])
        # In the cross these are x ** 2 times (x + 1) ** 4, and the square of x ** 3 + x + 1.
        self.assertEqual([first_lost_between((-6, 6), many) for many in range(1, 7)], [1, 2, 5, 5, 5, 11])
        self.assertEqual((most_lost_between((-6, 6)), losing_between((-6, 6))), ((6, 11), (2, 3)))
        self.assertEqual([first_lost_between((-6, 0, 6), many) for many in range(1, 7)], [8] * 6)
        self.assertEqual((most_lost_between((-6, 0, 6)), losing_between((-6, 0, 6))), ((6, 8), (9,)))


def slow_darkens(one, other, plain, many):
    """All right results for two polynomials in the cross."""
    if slow_rest(other, one) == ():
        return [("always", slow_quotient(other, one))]
    for size in range(1, many):
        both = euclid(one, slow_wall_polynomial(size))
        if slow_rest(other, both):
            return [("size", size, factor, often(factor, both)) for factor in plain
                    if degree(factor) <= degree(both) and often(factor, both) > often(factor, other)]
    return None


class DarkensBetween(unittest.TestCase):
    def test_refusals(self):
        good = {"one": (-6, 0, 6), "other": (-1, 1)}
        wrong = [("one", BadRule, NO_RULES), ("one", NotEven, UNEVEN), ("other", BadRule, NO_RULES),
                 ("other", NotEven, UNEVEN)]
        check_refusals(self, darkens_between, good, wrong)
        check_refusals(self, shows_darkens_between, {**good, "value": None}, wrong)

    def test_short_rules(self):
        for one, first in SHORT.items():
            for other, second in SHORT.items():
                right = slow_darkens(first, second, PLAIN, 40)
                self.assertIn(darkens_between(one, other), right)
                for value in right:
                    self.assertIs(shows_darkens_between(one, other, value), True)

    def test_great_rules(self):
        for one in EVEN_RULES[::9] + SOME_EVEN:
            for other in EVEN_RULES[4::9] + SOME_EVEN:
                right = slow_darkens(POWERS[one], POWERS[other], PLAIN, 70)
                self.assertIn(darkens_between(one, other), right)

    def test_by_all_rows(self):
        for one in EVEN_RULES[::5]:
            for other in EVEN_RULES[::7]:
                told = darkens_between(one, other)
                if told[0] == "always":
                    self.assertEqual(slow_rule(slow_times(POWERS[one], told[1])), other)
                for size in range(1, 6):
                    rows = [row for row in all_rows(size) if "1" not in slow_beat("walls", one, row)]
                    dark = all("1" not in slow_beat("walls", other, row) for row in rows)
                    if told[0] == "always" or size < told[1]:
                        self.assertTrue(dark)
                    elif size == told[1]:
                        self.assertFalse(dark)

    def test_edges(self):
        self.assertEqual(darkens_between((0,), (-6, 6)), ("always", POWERS[-6, 6]))
        self.assertEqual(darkens_between((-6, 6), (-6, 6)), ("always", (0,)))
        self.assertEqual(darkens_between((-1, 1), (0,)), ("size", 1, (1,), 1))
        self.assertEqual(darkens_between((-1, 0, 1), (0,)), ("size", 2, (0, 1), 1))
        self.assertEqual(darkens_between((-4, 4), (-2, 2)), ("size", 3, (1,), 3))
        self.assertEqual(darkens_between(slow_rule((0, 2)), (-1, 0, 1)), ("size", 2, (0, 1), 2))
        self.assertEqual(darkens_between(slow_rule((4,)), slow_rule((3,))), ("size", 7, (1,), 4))
        self.assertEqual(darkens_between(slow_rule((0, 4)), slow_rule((0, 2))), ("size", 5, (0, 1), 4))

    def test_shows_all_small_values(self):
        for first, second in (((2,), (1,)), ((1, 3), (1,)), ((1, 2), (0,)), ((1, 4), (1, 2)), ((0, 4), (0, 1))):
            one, other = slow_rule(first), slow_rule(second)
            size = darkens_between(one, other)[1]
            both = euclid(first, slow_wall_polynomial(size))
            for factor in all_polynomials(3):
                for times in range(6):
                    right = slow_is_plain(factor) and often(factor, both) == times > often(factor, second)
                    self.assertIs(shows_darkens_between(one, other, ("size", size, factor, times)), right)
                    for wrong in (size - 1, size + 1, 2 * size + 1):
                        self.assertIs(shows_darkens_between(one, other, ("size", wrong, factor, times)), False)

    def test_shows_any_value(self):
        always, size = ("always", (1,)), ("size", 3, (1,), 2)
        self.assertIs(shows_darkens_between((-1, 1), (-2, 2), always), True)
        bent = [list(always), ("always",), ("always", [1]), ("always", (True,)), ("always", (0,)), ("always", ()), "always",
                ("always", (1,), 0), ("Always", (1,)), ("size", (1,)), (("always", (1,)),), ((1,), "always"), ("always", "1"),
                ("always", None), ("always", 1), ("always", (0, 1)), size]
        for value in bent + STRANGE:
            self.assertIs(shows_darkens_between((-1, 1), (-2, 2), value), False, value)
        self.assertIs(shows_darkens_between((-2, 2), (-1, 1), size), True)
        bent = [list(size), size[:3], size + (0,), ("size", 3, (1,), 1), ("size", 3, (1,), 3), ("size", 7, (1,), 2),
                ("size", 4, (1,), 2), ("size", "3", (1,), 2), ("size", 3, [1], 2), ("size", 3, (True,), 2), "size",
                ("size", 3, (2,), 1), ("size", 3, (0,), 2), ("size", 3, (), 2), ("size", 3, (1,), "2"), ("size", 3, 1, 2),
                ("size", 3, (1,), None), ("size", 3, None, 2), ("size", None, (1,), 2), ("sizes", 3, (1,), 2),
                ("always", 3, (1,), 2), ("size", 3, (1,), (2,)), ("size", (3,), (1,), 2), (None, 3, (1,), 2), always]
        for value in bent + STRANGE:
            self.assertIs(shows_darkens_between((-2, 2), (-1, 1), value), False, value)
        self.assertIs(shows_darkens_between((-1, 1), (0,), ("size", 1, (1,), 1)), True)
        for value in (("size", True, (1,), 1), ("size", 1, (1,), True), ("size", 1, (True,), 1), ("size", 1, (1,), False)):
            self.assertIs(shows_darkens_between((-1, 1), (0,), value), False)


if __name__ == "__main__":
    unittest.main()
