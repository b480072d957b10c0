import unittest
from math import gcd

from beatlamps.entries import entries, entry, shared_size, stands, wall_at, wall_rest
from beatlamps.errors import BadMiddle, BadPolynomial, BadSize, NotPlain, TooHigh
from beatlamps.rows import wall_polynomial
from tests.helper import NO_INTEGERS, NO_MIDDLES, NO_POLYNOMIALS, NO_ROW_SIZES, all_polynomials, check_refusals, euclid
from tests.helper import often, powers_of_bits, slow_entry, slow_factors, slow_is_plain, slow_plus, slow_rest, slow_times
from tests.helper import slow_wall_polynomial, slow_wall_rests

PLAIN = [one for one in all_polynomials(6) if slow_is_plain(one)]
NOT_PLAIN = [(), (0,), (2,), (0, 2), (1, 2), (0, 4), (12,), (0, 12), (0, 13), (0, 1, 3, 4, 13), (0, 3, 25), (0, 1, 2, 3),
             (400,), (0, 400), tuple(range(401)), (0, 1, 4, 6, 12, 13), (0, 2, 12)]
NO_SIZES = NO_INTEGERS + [-1, -10 ** 30, 10 ** 30 + 1, 10 ** 39]
SIZES_30 = [10 ** 30, 10 ** 30 - 1, 2 ** 99 - 1, 3 * 2 ** 70 - 1, 15 * 2 ** 3 * 10 ** 20 - 1, 5 ** 40, 7 ** 30 - 1,
            4095 * 4097 * 10 ** 20 - 1, 17 * 31 * 33 * 65 * 63 * 7 ** 10 * 9 - 1]


def sieved(degree):
    """All plain polynomials of this degree and less, as integers, by striking out products."""
    plain = dict.fromkeys(range(2, 1 << degree + 1), True)
    for one in range(2, 1 << degree // 2 + 1):
        if plain[one]:
            for other in range(one, 1 << degree + 2 - one.bit_length()):
                product = 0
                for at in range(one.bit_length()):
                    product ^= (other << at) * (one >> at & 1)
                plain[product] = False
    return [one for one in plain if plain[one]]


def long_wall_rest(size, one):
    """The rest of a far wall polynomial, by products of matrices of two rows."""
    def product(left, right):
        return [[slow_rest(slow_plus(slow_times(row[0], right[0][at]), slow_times(row[1], right[1][at])), one)
                 for at in (0, 1)] for row in left]
    result, doubling = [[(0,), ()], [(), (0,)]], [[(1,), (0,)], [(0,), ()]]
    for at in range(size.bit_length()):
        if size >> at & 1:
            result = product(result, doubling)
        doubling = product(doubling, doubling)
    return slow_rest(result[0][0], one)


class Entry(unittest.TestCase):
    def test_refusals(self):
        for factor in ((1,), (0, 1, 4, 6, 12)):
            wrong = [("factor", BadPolynomial, NO_POLYNOMIALS), ("factor", NotPlain, NOT_PLAIN)]
            check_refusals(self, entry, {"factor": factor}, wrong)
            for size in (0, 10 ** 30):
                check_refusals(self, stands, {"factor": factor, "size": size}, wrong + [("size", BadSize, NO_SIZES)])

    def test_all_that_are_not_plain(self):
        plain = sieved(8)
        for bits in range(2, 512):
            if bits not in plain:
                check_refusals(self, entry, {"factor": (1,)}, [("factor", NotPlain, [powers_of_bits(bits)])])

    def test_all_up_to_degree_12(self):
        plain = sieved(12)
        self.assertEqual(len(plain), 2 + 1 + 2 + 3 + 6 + 9 + 18 + 30 + 56 + 99 + 186 + 335)
        for bits in plain:
            factor = powers_of_bits(bits)
            self.assertEqual(entry(factor), slow_entry(factor))

    def test_it_tells_of_all_sizes(self):
        for factor in PLAIN:
            least = entry(factor)
            rests = slow_wall_rests(factor, 150)
            for size in range(150):
                self.assertIs(rests[size] == 0, (size + 1) % least == 0)

    def test_edges(self):
        self.assertEqual([entry(one) for one in ((1,), (0, 1), (0, 1, 2))], [2, 3, 5])
        self.assertEqual(entry((0, 1, 4, 6, 12)), slow_entry((0, 1, 4, 6, 12)))


class Stands(unittest.TestCase):
    def test_small_sizes(self):
        walls = [slow_wall_polynomial(size) for size in range(50)]
        for factor in [one for one in PLAIN if one[-1] <= 4]:
            for size in range(50):
                self.assertEqual(stands(factor, size), often(factor, walls[size]))

    def test_greater_factors(self):
        for factor in PLAIN:
            least = entry(factor)
            for size in (least - 1, 2 * least - 1, 3 * least - 1, 4 * least - 1, least, 2 * least):
                if size < 140:
                    self.assertEqual(stands(factor, size), often(factor, slow_wall_polynomial(size)))

    def test_sizes_of_thirty_figures(self):
        for factor in PLAIN[:8]:
            for size in SIZES_30:
                many = stands(factor, size)
                if many < 8:
                    power = (0,)
                    for _ in range(many):
                        power = slow_times(power, factor)
                    self.assertEqual(long_wall_rest(size, power), ())
                    self.assertNotEqual(long_wall_rest(size, slow_times(power, factor)), ())

    def test_great_powers_of_two(self):
        self.assertEqual([stands((1,), 2 ** at - 1) for at in (0, 1, 2, 99)], [0, 1, 3, 2 ** 99 - 1])
        self.assertEqual([stands((0, 1), 3 * 2 ** at - 1) for at in (0, 1, 2, 97)], [2, 4, 8, 2 ** 98])
        self.assertEqual([stands(one, 2 ** 99 - 1) for one in ((0, 1), (0, 1, 2), (0, 1, 4, 6, 12))], [0, 0, 0])

    def test_edges(self):
        for factor in PLAIN + [(0, 1, 4, 6, 12)]:
            self.assertEqual(stands(factor, 0), 0)
            self.assertEqual(stands(factor, 1), int(factor == (1,)))
        self.assertEqual([stands((1,), 10 ** 30), stands((1,), 10 ** 30 - 1)], [0, 2 ** 30 - 1])


class WallAt(unittest.TestCase):
    def test_refusals(self):
        for high in (1, 24):
            check_refusals(self, wall_at, {"middle": True, "high": high},
                           [("middle", BadMiddle, NO_MIDDLES), ("high", BadSize, NO_ROW_SIZES)])
        for high in (1, 12):
            check_refusals(self, entries, {"middle": False, "high": high},
                           [("middle", BadMiddle, NO_MIDDLES), ("high", BadSize, NO_ROW_SIZES),
                            ("high", TooHigh, [13, 14, 23, 24], 12)])

    def test_all_heights(self):
        for high in range(1, 25):
            self.assertEqual(wall_at(False, high), slow_wall_polynomial(high))
            self.assertEqual(wall_at(False, high), wall_polynomial(high))
            self.assertEqual(wall_at(True, high), slow_wall_polynomial(high, (0, 1)))

    def test_entries(self):
        for middle in (False, True):
            for high in range(1, 10):
                right = slow_factors(slow_wall_polynomial(high, (0, 1) if middle else (1,)))
                self.assertEqual(entries(middle, high), tuple((one, many, slow_entry(one)) for one, many in right))

    def test_entries_of_all_heights(self):
        for middle in (False, True):
            for high in range(1, 13):
                told = entries(middle, high)
                self.assertEqual(told, tuple(sorted(set(told))))
                together = (0,)
                for factor, many, least in told:
                    self.assertTrue(slow_is_plain(factor))
                    self.assertEqual(least, slow_entry(factor))
                    for _ in range(many):
                        together = slow_times(together, factor)
                self.assertEqual(together, slow_wall_polynomial(high, (0, 1) if middle else (1,)))

    def test_edges(self):
        self.assertEqual([wall_at(False, 1), wall_at(True, 1)], [(1,), (0, 1)])
        self.assertEqual([entries(False, 1), entries(True, 1)], [(((1,), 1, 2),), (((0, 1), 1, 3),)])
        self.assertEqual([entries(False, 7), entries(True, 7)], [(((1,), 7, 2),), (((0, 1), 7, 3),)])


class WallRest(unittest.TestCase):
    def test_small_sizes(self):
        for one in PLAIN + [(0,), (3,), (0, 2, 7), (1, 2, 5)]:
            bits = sum(1 << at for at in one)
            self.assertEqual([wall_rest(size, bits) for size in range(60)], slow_wall_rests(one, 60))

    def test_sizes_of_thirty_figures(self):
        for one in ((0, 1, 2), (3,), (0, 2, 7)):
            for size in SIZES_30:
                self.assertEqual(powers_of_bits(wall_rest(size, sum(1 << at for at in one))), long_wall_rest(size, one))


class SharedSize(unittest.TestCase):
    def test_refusals(self):
        for one, other in ((0, 10 ** 30), (10 ** 30, 0), (5, 8)):
            check_refusals(self, shared_size, {"one": one, "other": other},
                           [("one", BadSize, NO_SIZES), ("other", BadSize, NO_SIZES)])

    def test_small_sizes(self):
        walls = [slow_wall_polynomial(size) for size in range(30)]
        for one in range(30):
            for other in range(30):
                self.assertEqual(walls[shared_size(one, other)], euclid(walls[one], walls[other]))

    def test_sizes_of_thirty_figures(self):
        for one in SIZES_30:
            for other in SIZES_30 + [0, 1, 2, 19, 24]:
                self.assertEqual(shared_size(one, other) + 1, gcd(one + 1, other + 1))
                self.assertEqual(shared_size(other, one), shared_size(one, other))

    def test_edges(self):
        self.assertEqual([shared_size(0, 0), shared_size(0, 10 ** 30), shared_size(1, 1)], [0, 0, 1])
        self.assertEqual([shared_size(10 ** 30, 10 ** 30), shared_size(10 ** 30 - 1, 9)], [10 ** 30, 9])


if __name__ == "__main__":
    unittest.main()
