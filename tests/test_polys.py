import unittest

from beatlamps.errors import BadBeats, BadPolynomial, Nought
from beatlamps.polys import common, core, parted, plus, power, shows_common, times
from tests.helper import NO_BEATS, NO_POLYNOMIALS, STRANGE, all_polynomials, check_refusals, degree
from tests.helper import slow_common, slow_plus, slow_power, slow_rest, slow_times

SMALL = all_polynomials(3)
GREAT = [(400,), (0, 400), tuple(range(401)), tuple(range(0, 401, 2)), tuple(range(1, 400, 3)), (0, 1, 7, 399)]
FULL = tuple(range(401))


class Sums(unittest.TestCase):
    def test_plus_and_times_of_all_small_ones(self):
        for one in SMALL:
            for other in SMALL:
                self.assertEqual(plus(one, other), slow_plus(one, other))
                self.assertEqual(times(one, other), slow_times(one, other))

    def test_edges(self):
        self.assertEqual(plus((), ()), ())
        self.assertEqual(plus((400,), (400,)), ())
        self.assertEqual(times((), FULL), ())
        self.assertEqual(times((0,), FULL), FULL)
        self.assertEqual(times((1,), (0, 399)), (1, 400))

    def test_great_products(self):
        self.assertEqual(times((400,), (400,)), (800,))
        for one in GREAT:
            for other in GREAT:
                self.assertEqual(plus(one, other), slow_plus(one, other))
                self.assertEqual(times(one, other), slow_times(one, other))

    def test_refusals(self):
        for function in (plus, times, common):
            check_refusals(self, function, {"one": (0, 1), "other": (0, 400)},
                           [("one", BadPolynomial, NO_POLYNOMIALS), ("other", BadPolynomial, NO_POLYNOMIALS)])

    def test_sums_of_products(self):
        for one in SMALL[::3]:
            for other in SMALL[::2]:
                for third in SMALL:
                    self.assertEqual(times(plus(one, other), third), plus(times(one, third), times(other, third)))


class Parts(unittest.TestCase):
    def check(self, one, other):
        quotient, rest = parted(one, other)
        self.assertEqual(slow_plus(slow_times(quotient, other), rest), one)
        self.assertLess(degree(rest), degree(other))
        self.assertIs(parted(one, other).__class__, tuple)

    def test_all_small_ones(self):
        for one in all_polynomials(4):
            for other in SMALL[1:]:
                self.check(one, other)
                self.assertEqual(parted(one, other)[1], slow_rest(one, other))

    def test_great_ones(self):
        for one in GREAT:
            for other in GREAT + [(0,), (1,), (0, 1)]:
                self.check(one, other)

    def test_edges(self):
        self.assertEqual(parted((), (0,)), ((), ()))
        self.assertEqual(parted((0, 400), (0,)), ((0, 400), ()))
        self.assertEqual(parted((0,), (1,)), ((), (0,)))

    def test_refusals(self):
        check_refusals(self, parted, {"one": (0, 1), "other": (0, 400)},
                       [("one", BadPolynomial, NO_POLYNOMIALS), ("other", BadPolynomial, NO_POLYNOMIALS),
                        ("other", Nought, [()])])

    def test_core(self):
        for one in all_polynomials(6)[1:] + GREAT:
            shift, rest = core(one)
            self.assertIn(0, rest)
            self.assertEqual(slow_times((shift,), rest), one)
        self.assertEqual(core((0,)), (0, (0,)))
        self.assertEqual(core((400,)), (400, (0,)))
        check_refusals(self, core, {"one": (1, 2)}, [("one", BadPolynomial, NO_POLYNOMIALS), ("one", Nought, [()])])


class Common(unittest.TestCase):
    def check(self, one, other):
        factor, first, second = common(one, other)
        self.assertEqual(slow_plus(slow_times(first, one), slow_times(second, other)), factor)
        for part in (one, other):
            self.assertEqual(slow_rest(part, factor) if factor else part, ())
        self.assertIs(shows_common(one, other, (factor, first, second)), True)

    def test_all_small_ones(self):
        for one in SMALL:
            for other in SMALL:
                self.check(one, other)
                self.assertEqual(common(one, other)[0], slow_common(one, other))

    def test_great_ones(self):
        for one in GREAT + [(), (0,), (1,)]:
            for other in GREAT:
                self.check(one, other)

    def test_shows_all_triples(self):
        triples = [(a, b, c) for a in all_polynomials(2) for b in all_polynomials(2) for c in all_polynomials(2)]
        for one, other in [((0, 1), (0, 2)), ((), ()), ((), (0, 1)), ((1,), (0,)), ((0, 2), (0, 1, 2)), ((2,), (1, 2))]:
            factor = slow_common(one, other)
            for a, b, c in triples:
                right = a == factor and slow_plus(slow_times(b, one), slow_times(c, other)) == factor
                self.assertIs(shows_common(one, other, (a, b, c)), right)

    def test_shows_results_of_others(self):
        factor, first, second = common((0, 2), (0, 3))
        for more in (1, 5, 390):
            other = (factor, slow_plus(first, (more, more + 3)), slow_plus(second, (more, more + 2)))
            self.assertIs(shows_common((0, 2), (0, 3), other), True)
            self.assertIs(shows_common((0, 2), (0, 3), (factor, other[1], second)), False)
        beyond = (factor, slow_plus(first, (400, 403)), slow_plus(second, (400, 402)))
        self.assertIs(shows_common((0, 2), (0, 3), beyond), False)

    def test_shows_bent_results(self):
        right = common((0, 1, 2), (1, 2, 4))
        for value in (list(right), [right], right + ((),), right[:2], tuple(list(part) for part in right),
                      (right[0], right[1], list(right[2])), (list(right[0]),) + right[1:], {0: right}, str(right)):
            self.assertIs(shows_common((0, 1, 2), (1, 2, 4), value), False)
        self.assertIs(shows_common((0, 1), (), ((0, 1), (0,), ())), True)
        self.assertIs(shows_common((0, 1), (), ((0, True), (0,), ())), False)
        self.assertIs(shows_common((0, 1), (), ((0, 1), (False,), ())), False)
        self.assertIs(shows_common((0, 1), (), ((0, 1), (0,), (-1,))), False)
        self.assertIs(shows_common((0, 1), (), ((0, 1), (0,), (3, 2))), False)

    def test_shows_any_value(self):
        for value in STRANGE + NO_POLYNOMIALS:
            self.assertIs(shows_common((0, 1), (0, 2), value), False)
            self.assertIs(shows_common((0, 1), (0, 2), (value, value, value)), False)

    def test_refusals(self):
        check_refusals(self, shows_common, {"one": (0, 1), "other": (0, 400), "value": None},
                       [("one", BadPolynomial, NO_POLYNOMIALS), ("other", BadPolynomial, NO_POLYNOMIALS)])


class Powers(unittest.TestCase):
    def test_all_small_ones(self):
        for one in SMALL:
            for modulo in SMALL[1:]:
                for beats in range(7):
                    self.assertEqual(power(one, beats, modulo), slow_power(one, beats, modulo))

    def test_edges(self):
        self.assertEqual(power((), 0, (1,)), (0,))
        self.assertEqual(power((), 0, (0,)), ())
        self.assertEqual(power((), 10 ** 30, (1,)), ())
        self.assertEqual(power(FULL, 10 ** 30, (0,)), ())
        self.assertEqual(power(FULL, 1, (0, 400)), slow_rest(FULL, (0, 400)))

    def test_many_beats(self):
        # The powers of x go round by 2 ** 24 - 1 here, as the walk in test_measures tells.
        beats = 10 ** 30
        self.assertEqual(power((1,), beats, (0, 1, 3, 4, 24)), power((1,), beats % (2 ** 24 - 1), (0, 1, 3, 4, 24)))
        for one in SMALL:
            rows = [slow_rest((0,), (0, 2, 5))]
            while rows.count(rows[-1]) == 1:
                rows.append(slow_rest(slow_times(rows[-1], one), (0, 2, 5)))
            tail = rows.index(rows[-1])
            period = len(rows) - 1 - tail
            self.assertEqual(power(one, beats, (0, 2, 5)), rows[tail + (beats - tail) % period])

    def test_at_the_bounds(self):
        # Round a ring of 400 powers are taken modulo 400; 10 ** 30 is a multiple of it.
        self.assertEqual(power((1,), 10 ** 30, (0, 400)), (0,))
        self.assertEqual(power((1,), 10 ** 30 - 1, (0, 400)), (399,))
        self.assertEqual(power((0, 1), 2 ** 99, (0, 400)), tuple(sorted([0, 2 ** 99 % 400])))

    def test_refusals(self):
        check_refusals(self, power, {"one": (0, 1), "beats": 10 ** 30, "modulo": (0, 3)},
                       [("one", BadPolynomial, NO_POLYNOMIALS), ("beats", BadBeats, NO_BEATS),
                        ("modulo", BadPolynomial, NO_POLYNOMIALS), ("modulo", Nought, [()])])


if __name__ == "__main__":
    unittest.main()
