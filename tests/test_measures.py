import unittest
from math import lcm

from beatlamps.errors import BadPolynomial, BadSize, NoMeasure, Nought, TooLong
from beatlamps.measures import measure, measured, shared
from beatlamps.plain import factors
from tests.helper import NO_POLYNOMIALS, NO_SIZES_30, all_polynomials, check_refusals, degree, slow_common
from tests.helper import slow_factors, slow_is_plain, slow_measure, slow_rest, slow_times
from tests.test_plain import TOO_LONG, section_5


def slow_core(one):
    return tuple(at - one[0] for at in one)


class Measures(unittest.TestCase):
    def test_refusals(self):
        section_5(measured, self)
        check_refusals(self, measure, {"one": (0, 1, 24)},
                       [("one", BadPolynomial, NO_POLYNOMIALS), ("one", Nought, [()]), ("one", TooLong, TOO_LONG, 24),
                        ("one", NoMeasure, [(1,), (24,), (1, 2), (3, 7)])])
        check_refusals(self, shared, {"one": (0, 1, 24), "size": 10 ** 30},
                       [("one", BadPolynomial, NO_POLYNOMIALS), ("one", Nought, [()]), ("one", TooLong, TOO_LONG, 24),
                        ("size", BadSize, NO_SIZES_30)])

    def test_all_small_ones(self):
        for one in all_polynomials(9)[1:]:
            if one[0] == 0:
                self.assertEqual(measure(one), slow_measure(one), one)

    def test_edges(self):
        self.assertEqual(measure((0,)), 1)
        self.assertEqual(measure((0, 1)), 1)
        self.assertEqual(measure((0, 2)), 2)
        self.assertEqual(measure((0, 24)), 24)
        self.assertEqual(measured((0,)), ())
        self.assertEqual(measured((24,)), ())
        self.assertEqual(measured((23, 24)), (((0, 1), 1, 1),))

    def test_squares_and_more(self):
        for times in range(1, 9):
            one = (0,)
            for _ in range(times):
                one = slow_times(one, (0, 1, 3))
            self.assertEqual(measure(one), slow_measure(one))
            self.assertEqual(measured(one), (((0, 1, 3), times, 7),))

    def test_degree_24(self):
        for one in [(0, 1, 3, 4, 24), (0, 8, 16, 24), tuple(range(25)), (0, 1, 24), (0, 5, 22), (0, 5, 23)]:
            self.assertEqual(measure(one), slow_measure(one))

    def test_measured_of_all_small_ones(self):
        for one in all_polynomials(6)[1:]:
            parts = measured(one)
            self.assertEqual(parts, tuple((part, times, slow_measure(part)) for part, times in
                                          slow_factors(slow_core(one))))
            doublings = 1
            while doublings < max([times for _, times, _ in parts], default=1):
                doublings *= 2
            self.assertEqual(measure(slow_core(one)), lcm(*[alone for _, _, alone in parts]) * doublings)

    def test_measured_of_great_ones(self):
        for one in [(1, 24), (0, 24), (3, 5, 20), tuple(range(25)), (2, 3, 7, 24), (0, 1, 3, 4, 24)]:
            self.assertEqual(measured(one), tuple(sorted(measured(one))))
            self.assertEqual([(part, times) for part, times, _ in measured(one)], list(factors(slow_core(one))))
            for part, _, alone in measured(one):
                self.assertEqual(alone, slow_measure(part))

    def test_it_tells_of_all_sizes(self):
        for one in all_polynomials(5)[1:]:
            if one[0] == 0:
                for size in range(1, 70):
                    divides = slow_rest((0, size), one) == ()
                    self.assertIs(divides, size % measure(one) == 0)

    def test_turned_about(self):
        for one in all_polynomials(7)[1:]:
            if one[0] == 0:
                self.assertEqual(measure(one), measure(tuple(degree(one) - at for at in reversed(one))))


class Shared(unittest.TestCase):
    def test_all_small_ones(self):
        for one in all_polynomials(4)[1:]:
            for size in range(1, 13):
                self.assertEqual(shared(one, size), degree(slow_common(one, slow_rest((0, size), one) or one)))

    def test_by_the_rows_of_measured(self):
        sizes = [1, 2, 3, 24, 10 ** 30, 10 ** 30 - 1, 2 ** 99, 3 * 2 ** 90, 2 ** 24 - 1, 7 * 31 * 2 ** 40, 15 * 2 ** 5]
        for one in all_polynomials(5)[1:] + [(0, 24), (24,), tuple(range(25)), (0, 1, 3, 4, 24), (0, 8, 16, 24)]:
            for size in sizes:
                twos = size & -size
                right = sum(degree(part) * min(times, twos) for part, times, alone in measured(one)
                            if size % alone == 0)
                self.assertEqual(shared(one, size), right, (one, size))

    def test_edges(self):
        self.assertEqual(shared((0,), 10 ** 30), 0)
        self.assertEqual(shared((24,), 10 ** 30), 0)
        self.assertEqual(shared((1,), 1), 0)
        self.assertEqual(shared((0, 1), 1), 1)
        self.assertEqual(shared((0, 1), 10 ** 30), 1)
        self.assertEqual(shared((0, 16), 2 ** 4 * 625), 16)
        self.assertEqual(shared((0, 1, 3, 4, 24), 2 ** 24 - 1), 24)
        self.assertEqual(shared((0, 1, 3, 4, 24), 10 ** 30), 0)

    def test_plain_ones_share_all_or_nothing(self):
        for one in all_polynomials(6)[3:]:
            if slow_is_plain(one):
                for size in range(1, 130):
                    self.assertIn(shared(one, size), (0, degree(one)))


if __name__ == "__main__":
    unittest.main()
