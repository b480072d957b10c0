import unittest

from beatlamps.errors import BadPolynomial, BadRule, NotEven, Nought, TooLong
from beatlamps.rules import in_cross, is_even, joined, of_cross, polynomial, turned
from tests.helper import EVEN_RULES, NO_POLYNOMIALS, NO_RULES, RULES, UNEVEN, all_polynomials, check_refusals, odd_ones
from tests.helper import slow_ring_beat, slow_rest

ALL_FIVE = [tuple(k - 2 for k in one) for one in all_polynomials(4)[1:]]
ENDS = [(-6,), (6,), (-6, 6), (-6, 0, 6), tuple(range(-6, 7)), (-6, 5), (5, 6)]


def slow_of_cross(powers):
    """The beats of the cross upon one lamp of a row so long that they come to no end."""
    offsets = []
    for beats in powers:
        lamps = (0,)
        for _ in range(beats):
            lamps = odd_ones([at + step for at in lamps for step in (-1, 1)])
        offsets.extend(lamps)
    return odd_ones(offsets)


class Rules(unittest.TestCase):
    def test_refusals(self):
        for function in (polynomial, turned, is_even):
            check_refusals(self, function, {"rule": (-6, 6)}, [("rule", BadRule, NO_RULES)])
        check_refusals(self, joined, {"one": (-6, 5), "other": (6,)},
                       [("one", BadRule, NO_RULES), ("other", BadRule, NO_RULES)])
        check_refusals(self, in_cross, {"rule": (-6, 6)}, [("rule", BadRule, NO_RULES), ("rule", NotEven, UNEVEN)])
        check_refusals(self, of_cross, {"powers": (0, 6)},
                       [("powers", BadPolynomial, NO_POLYNOMIALS), ("powers", Nought, [()]),
                        ("powers", TooLong, [(7,), (0, 7), (400,), tuple(range(8))], 6)])

    def test_polynomial(self):
        for rule in ALL_FIVE + RULES + ENDS:
            least, powers = polynomial(rule)
            self.assertEqual(powers[0], 0)
            self.assertEqual(tuple(least + at for at in powers), rule)

    def test_turned(self):
        for rule in ALL_FIVE + RULES + ENDS:
            self.assertEqual(turned(rule), tuple(sorted(-at for at in rule)))
            self.assertEqual(turned(turned(rule)), rule)
            self.assertIs(is_even(rule), set(rule) == {-at for at in rule})
            row = "1101000010000"
            self.assertEqual(slow_ring_beat(turned(rule), row[::-1]), slow_ring_beat(rule, row)[::-1])

    def test_edges(self):
        self.assertEqual(polynomial((6,)), (6, (0,)))
        self.assertEqual(polynomial(tuple(range(-6, 7))), (-6, tuple(range(13))))
        self.assertIs(is_even((0,)), True)
        self.assertIs(is_even((-6, 6)), True)
        self.assertIs(is_even((-6, 5)), False)
        self.assertIs(is_even((1,)), False)
        self.assertEqual(turned((-6, 0, 5)), (-5, 0, 6))

    def test_joined(self):
        row = "1" + "0" * 48
        for one in ALL_FIVE + ENDS:
            for other in ENDS + ALL_FIVE[::5]:
                both = joined(one, other)
                self.assertEqual(both, odd_ones([a + b for a in one for b in other]))
                self.assertEqual(slow_ring_beat(both, row), slow_ring_beat(one, slow_ring_beat(other, row)))
                self.assertEqual(joined(other, one), both)
        self.assertEqual(joined((-6, 6), (-6, 6)), (-12, 12))

    def test_joined_turned_about(self):
        for one in ALL_FIVE:
            for other in RULES:
                about = tuple(sorted(-at for at in joined(one, other)))
                self.assertEqual(joined(turned(one), turned(other)), about)


class Cross(unittest.TestCase):
    def test_all_polynomials_and_all_even_rules(self):
        rules = []
        for powers in all_polynomials(6)[1:]:
            rule = of_cross(powers)
            self.assertEqual(rule, slow_of_cross(powers))
            self.assertEqual(in_cross(rule), powers)
            rules.append(rule)
        self.assertEqual(sorted(rules), sorted(EVEN_RULES))
        self.assertEqual(len(EVEN_RULES), 127)

    def test_all_even_rules_go_by_the_cross(self):
        row = "1100100000001"
        for rule in EVEN_RULES:
            rows = [row]
            for _ in range(6):
                rows.append(slow_ring_beat((-1, 1), rows[-1]))
            together = "".join(str(sum(int(rows[k][at]) for k in in_cross(rule)) % 2) for at in range(13))
            self.assertEqual(together, slow_ring_beat(rule, row))

    def test_edges(self):
        self.assertEqual(of_cross((0,)), (0,))
        self.assertEqual(of_cross((1,)), (-1, 1))
        self.assertEqual(of_cross((6,)), slow_of_cross((6,)))
        self.assertEqual(in_cross((-6, 6)), (2, 6))
        self.assertEqual(slow_rest(in_cross((-6, 6)), (3,)), (2,))


if __name__ == "__main__":
    unittest.main()
