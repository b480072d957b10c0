import unittest

from beatlamps.alike import alike_on, alike_sizes
from beatlamps.errors import BadKind, BadRule, BadSize, NotEven
from beatlamps.rules import turned
from tests.helper import EVEN_RULES, NO_KINDS, NO_ROW_SIZES, NO_RULES, RULES, SOME_EVEN, UNEVEN, all_polynomials
from tests.helper import check_refusals, slow_beat

FOURS = [tuple(at - 2 for at in one) for one in all_polynomials(3)[1:]]
PAIRS = [("ring", one, other) for one in RULES + FOURS[::4] for other in RULES]
PAIRS = PAIRS + [("walls", one, other) for one in SOME_EVEN + EVEN_RULES[::16] for other in SOME_EVEN + EVEN_RULES[::9]]


def lamps_alone(size):
    return ["0" * at + "1" + "0" * (size - at - 1) for at in range(size)]


BEATS = {}


def slow_beats(kind, rule, size):
    """What a beat makes of each row with one lamp on: all others are sums of these."""
    if (kind, rule, size) not in BEATS:
        BEATS[kind, rule, size] = [slow_beat(kind, rule, row) for row in lamps_alone(size)]
    return BEATS[kind, rule, size]


class Alike(unittest.TestCase):
    def wrongs(self, kind):
        uneven = [("one", NotEven, UNEVEN), ("other", NotEven, UNEVEN)] if kind == "walls" else []
        return [("kind", BadKind, NO_KINDS), ("one", BadRule, NO_RULES), ("other", BadRule, NO_RULES)] + uneven

    def test_refusals(self):
        for kind in ("ring", "walls"):
            good = {"kind": kind, "one": (-6, 6), "other": (-1, 1)}
            check_refusals(self, alike_sizes, good, self.wrongs(kind))
            check_refusals(self, alike_on, {**good, "size": 24},
                           self.wrongs(kind) + [("size", BadSize, NO_ROW_SIZES)])

    def test_all_sizes(self):
        for kind, one, other in PAIRS:
            right = [size for size in range(1, 25) if slow_beats(kind, one, size) == slow_beats(kind, other, size)]
            told = alike_sizes(kind, one, other)
            self.assertEqual(told, ("always",) if one == other else ("sizes", tuple(right)), (kind, one, other))
            for size in (1, 2, 3, 6, 7, 12, 13, 24):
                self.assertIs(alike_on(kind, one, other, size), size in right)

    def test_edges(self):
        self.assertEqual(alike_sizes("ring", (0,), (0, 1)), ("sizes", ()))
        self.assertEqual(alike_sizes("ring", (-6,), (6,)), ("sizes", (1, 2, 3, 4, 6, 12)))
        self.assertEqual(alike_sizes("ring", (-6, 6), (-6, 6)), ("always",))
        self.assertEqual(alike_sizes("walls", (-6, 6), (-6, 6)), ("always",))
        self.assertIs(alike_on("ring", (-6,), (6,), 12), True)
        self.assertIs(alike_on("ring", (-6,), (6,), 13), False)
        self.assertIs(alike_on("walls", (-1, 1), (-1, 1), 24), True)

    def test_walls_apart_by_six(self):
        for size in range(1, 7):
            found = []
            for one in EVEN_RULES:
                for other in EVEN_RULES[:12]:
                    if one != other and slow_beats("walls", one, size) == slow_beats("walls", other, size):
                        found.append((one, other))
                        self.assertIn(size, alike_sizes("walls", one, other)[1])
            self.assertNotEqual(found, [])

    def test_turned_about(self):
        for kind, one, other in PAIRS:
            self.assertEqual(alike_sizes(kind, turned(one), turned(other)), alike_sizes(kind, one, other))
            self.assertEqual(alike_sizes(kind, other, one), alike_sizes(kind, one, other))


if __name__ == "__main__":
    unittest.main()
