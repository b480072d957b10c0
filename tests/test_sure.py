import random
import unittest
from itertools import combinations

from beatlamps.errors import BadBeats, BadOffers, BadPlace, Quarrel
from beatlamps.looks import Looks
from beatlamps.sure import further, needless, shows_further, shows_sure, sure, sure_from
from tests.helper import NO_BEATS, NO_PLACES_OF_4, QUARREL, STRANGE, TEXT, all_rows, caught, check_refusals, check_shows
from tests.helper import is_lot_below, is_text_row, looks_text, right_quarrel, slow_on, slow_orbit, slow_seen
from tests.helper import slow_starts, some_looks

BEATS = [0, 1, 2, 4, 7, 10 ** 30]


def fitting(chance, many, **named):
    """Looks that some start fits."""
    return [looks for looks in some_looks(chance, many, right=10, **named) if slow_starts(looks)]


def slow_values(looks, beat, place):
    """What the lamp is by all starts that fit."""
    starts = slow_starts(looks)
    on = slow_on(looks.kind, looks.rule, looks.size, beat, place)
    return {int(on[at]) for at, row in enumerate(all_rows(looks.size)) if row in starts}


def right_sure(looks, beat, place, value):
    if not isinstance(value, tuple) or len(value) != 3:
        return False
    on = slow_on(looks.kind, looks.rule, looks.size, beat, place)
    if value[0] == "open":
        if not is_text_row(value[1], looks.size) or not is_text_row(value[2], looks.size):
            return False
        rows, starts = all_rows(looks.size), slow_starts(looks)
        return {value[1], value[2]} <= set(starts) and not on[rows.index(value[1])] and on[rows.index(value[2])]
    if value[0] != "sure" or value[1].__class__ is not int or not is_lot_below(value[2], len(looks.seen)):
        return False
    told = slow_seen(looks)
    for at in range(2 ** looks.size):
        if (on[at] + sum(told[number][0][at] for number in value[2])) % 2:
            return False
    return {value[1]} == slow_values(looks, beat, place)


def check_quarrels(case, function, *values):
    looks = Looks(QUARREL)
    error = caught(function, looks, *values)
    case.assertIs(error.__class__, Quarrel)
    case.assertTrue(right_quarrel(looks, error.value))


class Sure(unittest.TestCase):
    def test_all_starts_gone_through(self):
        chance = random.Random(10)
        words = []
        for looks in fitting(chance, 150):
            for beat in BEATS:
                for place in range(looks.size):
                    told = sure(looks, beat, place)
                    words.append(told[:2] if told[0] == "sure" else told[0])
                    self.assertEqual(told[0], "sure" if len(slow_values(looks, beat, place)) == 1 else "open")
                    self.assertTrue(right_sure(looks, beat, place, told), (looks.text, beat, place, told))
        self.assertGreater(min(words.count("open"), words.count(("sure", 0)), words.count(("sure", 1))), 100)

    def test_without_looks(self):
        looks = Looks("kind walls\nsize 3\nrule -1 1")
        self.assertEqual(sure(looks, 0, 1)[0], "open")
        self.assertEqual(sure(looks, 2, 1), ("sure", 0, ()))
        self.assertEqual(sure(looks, 10 ** 30, 0), ("sure", 0, ()))

    def test_shows(self):
        chance = random.Random(11)
        for looks in fitting(chance, 12, sizes=(1, 2, 3)):
            for beat, place in [(0, 0), (3, looks.size - 1), (10 ** 30, 0)]:
                values = [sure(looks, beat, place)]
                values += [("open", one, other) for one in all_rows(looks.size)[:4] for other in all_rows(looks.size)[-4:]]
                for number in range(min(len(looks), 3) + 1):
                    for lot in combinations(range(len(looks)), number):
                        values += [("sure", value, lot) for value in (0, 1)]
                check_shows(self, shows_sure, (looks, beat, place), right_sure, values[:1] + values[1::2][:16])

    def test_shows_other_results(self):
        looks = Looks("kind ring\nsize 2\nrule 0\nlook 0 0 1\nlook 5 0 1\nlook 6 1 0\nlook 7 0 1")
        lots = [lot for number in range(5) for lot in combinations(range(4), number) if
                shows_sure(looks, 9, 0, ("sure", 1, lot))]
        self.assertEqual(lots, [(0,), (1,), (3,), (0, 1, 3)])
        self.assertIs(shows_sure(looks, 9, 0, ("sure", True, (0,))), False)
        self.assertIs(shows_sure(looks, 9, 0, ("sure", 0, (0,))), False)
        self.assertIs(shows_sure(looks, 9, 1, ("sure", 0, (2,))), True)
        for value in (2, 4, -1, -2, 3, False):
            self.assertIs(shows_sure(looks, 9, 1, ("sure", value, (2,))), False)
        dark = Looks("kind ring\nsize 1\nrule 0\nlook 0 0 0")
        for value in (2, 4, -1, -2, 3, False, 0):
            self.assertIs(shows_sure(dark, 9, 0, ("sure", value, (0,))), repr(value) == "0")

    def test_sixteen_lamps(self):
        looks = Looks(looks_text("ring", (-6, -1, 2), 16, [(10 ** 30 - at, at, 0) for at in range(12)]))
        for beat in (0, 10 ** 30):
            for place in range(16):
                told = sure(looks, beat, place)
                self.assertIs(shows_sure(looks, beat, place, told), True)
                if told[0] == "sure":
                    self.assertEqual(told[1], 0)

    def test_refusals(self):
        wrongs = [("beat", BadBeats, NO_BEATS), ("place", BadPlace, NO_PLACES_OF_4)]
        for text in (TEXT, TEXT + "\nlook 3 1 1"):
            good = {"looks": Looks(text), "beat": 10 ** 30, "place": 3}
            check_refusals(self, sure, good, wrongs)
            check_refusals(self, shows_sure, {**good, "value": None}, wrongs)
        check_quarrels(self, sure, 0, 0)
        check_quarrels(self, shows_sure, 0, 0, None)
        for function, more in ((sure, ()), (shows_sure, (None,))):
            self.assertIs(caught(function, Looks(QUARREL), -1, 0, *more).__class__, BadBeats)
            self.assertIs(caught(function, Looks(QUARREL), 0, 4, *more).__class__, BadPlace)


class SureFrom(unittest.TestCase):
    def test_all_starts_gone_through(self):
        chance = random.Random(12)
        found = []
        for looks in fitting(chance, 120, sizes=(1, 2, 3, 4)):
            orbits = [len(slow_orbit(looks.kind, looks.rule, row)[0]) for row in all_rows(looks.size)]
            bound = 2 * max(orbits) + 8
            for place in range(looks.size):
                unsure = [beat for beat in range(bound) if len(slow_values(looks, beat, place)) > 1]
                expected = None if unsure and unsure[-1] >= bound // 2 else unsure[-1] + 1 if unsure else 0
                self.assertEqual(sure_from(looks, place), expected, (looks.text, place))
                found.append(expected)
        self.assertLessEqual({None, 0, 1, 2}, set(found))

    def test_the_latest(self):
        for size in (4, 8, 16):
            # A lamp's light goes round the ring, or out: behind so many beats of a power of two none is left.
            looks = Looks(f"kind ring\nsize {size}\nrule 0 1")
            self.assertEqual([sure_from(looks, place) for place in range(size)], [size] * size)
        looks = Looks("kind walls\nsize 15\nrule -1 1")
        self.assertEqual([sure_from(looks, place) for place in (0, 7, 14)], [15, 8, 15])
        looks = Looks("kind ring\nsize 16\nrule 1")
        self.assertEqual(sure_from(looks, 0), None)
        looks = Looks(looks_text("ring", (0,), 16, [(10 ** 30, 3, 1)]))
        self.assertEqual([sure_from(looks, 3), sure_from(looks, 4)], [0, None])

    def test_refusals(self):
        check_refusals(self, sure_from, {"looks": Looks(TEXT), "place": 3}, [("place", BadPlace, NO_PLACES_OF_4)])
        check_quarrels(self, sure_from, 0)
        self.assertIs(caught(sure_from, Looks(QUARREL), 4).__class__, BadPlace)


class Needless(unittest.TestCase):
    def test_all_starts_gone_through(self):
        chance = random.Random(13)
        quarrels = 0
        for looks in fitting(chance, 120) + some_looks(chance, 80) + some_looks(chance, 80, right=9):
            starts = slow_starts(looks)
            quarrels += starts == []
            expected = [number for number in range(len(looks)) if slow_starts(looks.without(number)) == starts]
            self.assertEqual(needless(looks), tuple(expected), looks.text)
        self.assertGreater(quarrels, 30)

    def test_quarrels(self):
        self.assertEqual(needless(Looks(QUARREL)), (1,))
        self.assertEqual(needless(Looks(QUARREL + "\nlook 4 2 1\nlook 5 2 1")), (0, 1, 2, 3, 4))
        self.assertEqual(needless(Looks(QUARREL).without(0)), ())
        self.assertEqual(needless(Looks("kind ring\nsize 2\nrule 0")), ())
        self.assertEqual(needless(looks=Looks(QUARREL)), (1,))


def slow_offers(looks):
    return [(beat, place) for beat in (0, 1, 2, 5, 10 ** 30) for place in range(looks.size)
            if (beat, place) not in [look[:2] for look in looks.seen]]


def tell_apart(looks, offers, choice):
    """Whether no two starts that fit are alike at these offers, whatever is seen there."""
    starts = set(slow_starts(looks))
    seen = [slow_on(looks.kind, looks.rule, looks.size, *offers[number]) for number in choice]
    told = [tuple(on[at] for on in seen) for at, row in enumerate(all_rows(looks.size)) if row in starts]
    return len(told) == len(set(told))


def right_further(looks, offers, value):
    if not isinstance(value, tuple) or len(value) != 2:
        return False
    if value[0] == "hidden":
        if not is_text_row(value[1], looks.size) or "1" not in value[1]:
            return False
        at = all_rows(looks.size).index(value[1])
        where = [look[:2] for look in looks.seen] + list(offers)
        return not any(slow_on(looks.kind, looks.rule, looks.size, beat, place)[at] for beat, place in where)
    if value[0] != "looks" or not is_lot_below(value[1], len(offers)) or not tell_apart(looks, offers, value[1]):
        return False
    return len(value[1]) == min(number for number in range(len(offers) + 1) for lot in
                                combinations(range(len(offers)), number) if tell_apart(looks, offers, lot))


class Further(unittest.TestCase):
    def some(self, chance, many, **named):
        for looks in fitting(chance, many, **named):
            offers = slow_offers(looks)
            if offers:
                number = chance.randrange(1, min(8, len(offers)) + 1)
                yield looks, tuple(sorted(chance.sample(offers, number)))

    def test_all_starts_gone_through(self):
        chance = random.Random(14)
        words = []
        for looks, offers in self.some(chance, 250, most=7):
            told = further(looks, offers)
            words.append(told[0])
            self.assertEqual(told[0], "looks" if tell_apart(looks, offers, range(len(offers))) else "hidden")
            self.assertTrue(right_further(looks, offers, told), (looks.text, offers, told))
        self.assertGreater(min(words.count("looks"), words.count("hidden")), 50)

    def test_shows(self):
        chance = random.Random(15)
        for looks, offers in self.some(chance, 24, most=4, sizes=(1, 2, 3)):
            values = [further(looks, offers)] + [("hidden", row) for row in all_rows(looks.size)]
            if len(offers) < 6:
                values += [("looks", lot) for number in range(4) for lot in combinations(range(len(offers)), number)]
            check_shows(self, shows_further, (looks, offers), right_further, values)

    def test_shows_other_results(self):
        looks = Looks("kind ring\nsize 2\nrule 0\nlook 0 0 1")
        offers = ((1, 0), (1, 1), (2, 1))
        taken = [lot for number in range(4) for lot in combinations(range(3), number) if
                 shows_further(looks, offers, ("looks", lot))]
        self.assertEqual(taken, [(1,), (2,)])
        self.assertEqual(further(Looks("kind ring\nsize 1\nrule 0\nlook 0 0 1"), ((1, 0),)), ("looks", ()))
        self.assertIs(shows_further(Looks("kind ring\nsize 1\nrule 0\nlook 0 0 1"), ((1, 0),), ("looks", (0,))), False)

    def test_at_the_bounds(self):
        looks = Looks(looks_text("walls", (-1, 1), 16, [(at, 0, 1) for at in range(12)]))
        offers = tuple((at, 0) for at in range(12, 20))
        self.assertEqual(further(looks, offers), ("looks", (0, 1, 2, 3)))
        self.assertIs(shows_further(looks, offers, ("looks", (0, 1, 2, 3))), True)
        hidden = further(looks, ((12, 0), (13, 0), (14, 0)))
        self.assertEqual(hidden[0], "hidden")
        self.assertIs(shows_further(looks, ((12, 0), (13, 0), (14, 0)), hidden), True)
        far = ((10 ** 30 - 1, 15), (10 ** 30, 15))
        self.assertIs(shows_further(looks, far, further(looks, far)), True)

    def test_refusals(self):
        looks = Looks(TEXT)
        no_offers = STRANGE + [(), 0, (0, 1), ((0, 0),), ((3, 2),), ((3, 0),), ((1, 0), (3, 0)), ((1, 0), (1, 0)),
                               ((1, 1), (1, 0)), ((2, 0), (1, 0)), ((1, 4),), ((1, -1),), ((-1, 1),), ((10 ** 30 + 1, 1),),
                               ((True, 1),), ((1, False),), ([1, 0],), [(1, 0)], ((1, 0, 1),), ((1,),), (1, 0), ("1 0",),
                               (("1", "0"),), ((1, None),), ((1, 0), None), (None, (1, 0)), ((1, 0), (1, 1), (1, 1)),
                               tuple((beat, 0) for beat in range(4, 13)), tuple((beat, 0) for beat in range(4, 90))]
        good = {"looks": looks, "offers": ((1, 0), (1, 3), (2, 0), (10 ** 30, 1))}
        check_refusals(self, further, good, [("offers", BadOffers, no_offers)])
        check_refusals(self, shows_further, {**good, "value": None}, [("offers", BadOffers, no_offers)])
        check_quarrels(self, further, ((1, 1),))
        check_quarrels(self, shows_further, ((1, 1),), None)
        self.assertIs(caught(further, Looks(QUARREL), ((0, 0),)).__class__, BadOffers)
        eight = tuple((beat, 1) for beat in range(4, 12))
        self.assertIn(further(looks, eight)[0], ("looks", "hidden"))
        full = Looks(looks_text("ring", (0,), 4, [(beat, 0, 1) for beat in range(12)]))
        self.assertEqual(further(full, ((0, 1), (0, 2), (0, 3))), ("looks", (0, 1, 2)))
        # What a Looks holds now may be no offer, though it was one ahead of it.
        self.assertIs(caught(further, looks.with_look((1, 3, 0)), good["offers"]).__class__, BadOffers)


if __name__ == "__main__":
    unittest.main()
