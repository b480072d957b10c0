import unittest

from beatlamps.errors import BadPolynomial, Nought, TooLong
from beatlamps.plain import factors, is_plain, root
from tests.helper import NO_POLYNOMIALS, all_polynomials, check_refusals, degree, slow_factors, slow_is_plain
from tests.helper import slow_times

PLAIN = [one for one in all_polynomials(6) if slow_is_plain(one)]
TOO_LONG = [(25,), (0, 25), (0, 1, 400), tuple(range(26))]


def section_5(function, case):
    check_refusals(case, function, {"one": (0, 1, 24)},
                   [("one", BadPolynomial, NO_POLYNOMIALS), ("one", Nought, [()]), ("one", TooLong, TOO_LONG, 24)])


class Plain(unittest.TestCase):
    def test_refusals(self):
        for function in (is_plain, factors, root):
            section_5(function, self)

    def test_is_plain_of_all_small_ones(self):
        for one in all_polynomials(7)[1:]:
            self.assertIs(is_plain(one), slow_is_plain(one), one)

    def test_edges(self):
        self.assertIs(is_plain((0,)), False)
        self.assertIs(is_plain((1,)), True)
        self.assertIs(is_plain((0, 1)), True)
        self.assertIs(is_plain((2,)), False)
        self.assertIs(is_plain((0, 2)), False)

    def test_degree_24(self):
        self.assertIs(is_plain((0, 1, 3, 4, 24)), True)
        self.assertEqual(factors((0, 1, 3, 4, 24)), (((0, 1, 3, 4, 24), 1),))
        self.assertIs(is_plain((0, 24)), False)
        # Two plain ones of degree 12: no lesser one divides their product.
        for one in ((0, 1, 4, 6, 12), (0, 3, 12)):
            self.assertIs(is_plain(one), True)
            self.assertIs(is_plain(slow_times(one, (0, 3, 12))), False)
        self.assertEqual(factors(slow_times((0, 3, 12), (0, 1, 4, 6, 12))), (((0, 1, 4, 6, 12), 1), ((0, 3, 12), 1)))
        self.assertEqual(factors(slow_times((0, 3, 12), (0, 3, 12))), (((0, 3, 12), 2),))


class Factors(unittest.TestCase):
    def test_all_small_ones(self):
        for one in all_polynomials(6)[1:]:
            self.assertEqual(factors(one), slow_factors(one), one)

    def test_edges(self):
        self.assertEqual(factors((0,)), ())
        self.assertEqual(factors((1,)), (((1,), 1),))
        self.assertEqual(factors((24,)), (((1,), 24),))
        self.assertEqual(factors((0, 16)), (((0, 1), 16),))

    def test_products_of_plain_ones(self):
        for at in range(len(PLAIN)):
            together, made = (0,), {}
            for step in range(40):
                part = PLAIN[(at + step * step * (at + 1)) % len(PLAIN)]
                if degree(together) + degree(part) <= 24:
                    together = slow_times(together, part)
                    made[part] = made.get(part, 0) + 1
            self.assertEqual(factors(together), tuple(sorted(made.items())))

    def test_many_of_degree_24(self):
        for at in range(0, 2 ** 24, 2 ** 19 + 12347):
            one = tuple(k for k in range(24) if at >> k & 1) + (24,)
            together = (0,)
            for part, times in factors(one):
                self.assertIs(is_plain(part), True)
                for _ in range(times):
                    together = slow_times(together, part)
            self.assertEqual(together, one)
            self.assertEqual(factors(one), tuple(sorted(factors(one))))
            self.assertIs(is_plain(one), factors(one) == ((one, 1),))


class Roots(unittest.TestCase):
    def test_all_small_ones(self):
        squares = {slow_times(one, one): one for one in all_polynomials(4)}
        for one in all_polynomials(8)[1:]:
            self.assertEqual(root(one), squares.get(one))

    def test_edges(self):
        self.assertEqual(root((0,)), (0,))
        self.assertIs(root((1,)), None)
        self.assertEqual(root((24,)), (12,))
        self.assertIs(root((0, 23)), None)
        self.assertEqual(root(tuple(range(0, 25, 2))), tuple(range(13)))


if __name__ == "__main__":
    unittest.main()
