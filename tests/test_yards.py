import random
import unittest

from beatlamps.errors import BadBeats, BadKind, BadPlace, BadPlaces, BadRow, BadRule, Full, LampError, Loses, NotEven
from beatlamps.errors import NothingToRedo, NothingToUndo, NoTrial, TooLong
from beatlamps.journals import journal, read_journal
from beatlamps.looks import Looks, fits
from beatlamps.yards import Yard
from tests.helper import NO_BEATS, NO_INTEGERS, NO_KINDS, NO_PLACES_IN_4, NO_PLACES_OF_4, NO_ROWS, NO_RULES, RULES
from tests.helper import SOME_EVEN, STRANGE, UNEVEN, SlowYard, all_rows, bent, caught, check_refusals, do_deed_on
from tests.helper import kinds_and_rules, looks_text, slow_after, slow_back, slow_far_after, slow_long_after, some_deed


def state(yard):
    """All that can be seen of a yard."""
    return (yard.kind, yard.rule, yard.row, yard.first, yard.clock, yard.done, len(yard), journal(yard))


def redone(yard):
    """All states that redo goes on to, on a copy."""
    other, found = yard.copy(), []
    while caught(other.redo) is None:
        found.append(state(other))
    return found


def undone(yard):
    """All states that undo goes back to, on a copy."""
    other, found = yard.copy(), []
    while caught(other.undo) is None:
        found.append(state(other))
    return found


def whole(yard):
    return state(yard), undone(yard), redone(yard)


def worked():
    """A yard with deeds that stand, and deeds that were taken back."""
    yard = Yard("ring", (-1, 0, 1), "10000")
    yard.beat(2)
    yard.press(3)
    yard.turn()
    yard.cross(0)
    yard.undo()
    yard.undo()
    return yard


class Together(unittest.TestCase):
    def check(self, yard, slow):
        rule, row, clock = slow.state()
        self.assertEqual((yard.kind, yard.first, yard.rule, yard.row, yard.clock), (slow.kind, slow.first, rule, row, clock))
        self.assertEqual((yard.done, len(yard), journal(yard)), (len(slow.deeds), len(row), slow.journal()))
        self.assertEqual([place in yard for place in range(len(row))], [sign == "1" for sign in row])

    def test_deed_by_deed(self):
        chance = random.Random(25)
        refused = {}
        for kind, rule in kinds_and_rules() * 2:
            size = chance.randrange(1, 6)
            row = chance.choice(all_rows(size))
            yard, slow = Yard(kind, rule, row), SlowYard(kind, rule, row)
            self.check(yard, slow)
            for _ in range(25):
                word, value = some_deed(chance, size)
                held = state(yard)
                expected = slow.do(word, value)
                self.assertEqual(do_deed_on(yard, word, value), expected, (journal(yard), word, value))
                self.check(yard, slow)
                if expected is not None:
                    self.assertEqual(state(yard), held)
                    refused[expected[0]] = refused.get(expected[0], 0) + 1
            self.assertEqual(read_journal(journal(yard)), yard)
        for name in "BadBeats Loses BadPlace BadRule NotEven NothingToUndo NothingToRedo".split():
            self.assertGreater(refused[name], 3, name)

    def test_blocks_within_blocks(self):
        chance = random.Random(26)
        for kind, rule in kinds_and_rules() * 2:
            size = chance.randrange(1, 5)
            row = chance.choice(all_rows(size))
            yard, slow, blocks = Yard(kind, rule, row), SlowYard(kind, rule, row), []
            for _ in range(60):
                what = chance.randrange(6)
                if what == 0 and len(blocks) < 4:
                    blocks.append(yard.trial())
                    self.assertIs(blocks[-1].__enter__(), yard)
                    slow.begin()
                elif what == 1 and blocks:
                    error = chance.choice([None, None, LampError(1), KeyError(2)])
                    told = blocks.pop().__exit__(None if error is None else error.__class__, error, None)
                    self.assertFalse(told)
                    slow.end(error is not None)
                elif what == 2:
                    self.assertEqual(do_deed_on(yard, "keep", None), slow.do("keep", None))
                else:
                    word, value = some_deed(chance, size)
                    self.assertEqual(do_deed_on(yard, word, value), slow.do(word, value))
                self.check(yard, slow)
            other = yard.copy()
            self.check(other, slow)
            self.assertIs(caught(other.keep).__class__, NoTrial)
            while slow.undone:
                self.assertEqual(do_deed_on(other, "redo", None), slow.do("redo", None))
                self.check(other, slow)
            self.assertIs(caught(other.redo).__class__, NothingToRedo)


class Made(unittest.TestCase):
    def test_properties(self):
        for kind, rule in kinds_and_rules():
            for row in ("1", "0", "10", "0110", "1" * 24, "01" * 12):
                yard = Yard(kind, rule, row)
                self.assertEqual(state(yard)[:7], (kind, rule, row, row, 0, 0, len(row)))
                self.assertEqual(state(Yard(row=row, rule=rule, kind=kind)), state(yard))

    def test_refusals(self):
        check_refusals(self, Yard, {"kind": "walls", "rule": (-1, 1), "row": "0110"},
                       [("kind", BadKind, NO_KINDS), ("rule", BadRule, NO_RULES), ("rule", NotEven, UNEVEN),
                        ("row", BadRow, NO_ROWS)])

    def test_what_is_in_it(self):
        yard = Yard("ring", (0,), "1101")
        for value in STRANGE + ["0", "1", (0,), [1], -1, -2, 4, 5, 10 ** 30, True, False, yard, None, "1101"]:
            self.assertIs(value in yard, False, value)
        self.assertEqual([place in yard for place in range(4)], [True, True, False, True])
        yard.press(0)
        self.assertEqual([place in yard for place in range(4)], [False, True, False, True])

    def test_when_two_are_equal(self):
        yard = worked()
        same = Yard("ring", (-1, 0, 1), "10000")
        same.beat(2)
        same.press(3)
        self.assertIs(yard == same, True)
        self.assertIs(yard != same, False)
        self.assertEqual(read_journal(journal(yard)), yard)
        same.undo()
        self.assertIs(yard == same, False)
        self.assertIs(yard != same, True)
        other = Yard("ring", (-1, 0, 1), same.row)
        self.assertEqual(other.row, same.row)
        self.assertIs(other == same, False)
        twice = Yard("ring", (-1, 0, 1), "10000")
        twice.beat(1)
        twice.beat(1)
        twice.press(3)
        self.assertEqual(twice.row, yard.row)
        self.assertIs(twice == yard, False)
        for one, another in [(("ring", (0,), "10"), ("walls", (0,), "10")), (("ring", (0,), "10"), ("ring", (0,), "01")),
                             (("ring", (0,), "10"), ("ring", (0, 2), "10"))]:
            self.assertIs(Yard(*one) == Yard(*another), False)
            self.assertIs(Yard(*one) == Yard(*one), True)
            first, second = Yard(*one), Yard(*another)
            first.change((0,))
            second.change((0,))
            self.assertIs(first == second, False)
        for value in STRANGE + [journal(yard), yard.row, None, (yard.row,), Looks("kind ring\nsize 1\nrule 0")]:
            self.assertIs(yard == value, False)
            self.assertIs(value == yard, False)
            self.assertIs(yard != value, True)


class Deeds(unittest.TestCase):
    def check_refused(self, method, name, wrongs):
        """wrongs are the values by error; a refused deed changes nothing, also in what can be done again."""
        yard = worked()
        held = whole(yard)
        for error, values in wrongs:
            for value in values:
                told = caught(getattr(yard, method), value)
                self.assertIs(told.__class__, error, (method, value))
                self.assertIs(told.value, value)
                self.assertIs(caught(getattr(yard, method), **{name: value}).__class__, error)
        self.assertEqual(whole(yard), held)

    def test_beats(self):
        for kind, rule in kinds_and_rules():
            for row in ("1", "01", "11010", "110100111010001101001110"):
                for many in (1, 2, 10 ** 30 - 1, 10 ** 30):
                    yard = Yard(kind, rule, row)
                    self.assertIsNone(yard.beat(many))
                    self.assertEqual(yard.row, slow_long_after(kind, rule, row, many))
                    self.assertIsNone(yard.beat(many=many))
                    self.assertEqual((yard.clock, yard.done), (2 * many, 2))
        self.check_refused("beat", "many", [(BadBeats, NO_BEATS + [0])])

    def test_back(self):
        for kind, rule in kinds_and_rules():
            for row in ("1", "01", "110", "01101"):
                for many in (1, 2, 10 ** 30):
                    yard = Yard(kind, rule, row)
                    lost, other = slow_back(kind, rule, row, many)
                    if lost:
                        error = caught(yard.back, many)
                        self.assertEqual((error.__class__, error.value), (Loses, lost))
                        self.assertEqual((yard.row, yard.clock, yard.done), (row, 0, 0))
                    else:
                        self.assertIsNone(yard.back(many))
                        self.assertEqual((yard.row, yard.clock, yard.done), (other, -many, 1))
                        yard.beat(many=many)
                        self.assertEqual((yard.row, yard.clock, yard.done), (row, 0, 2))

    def test_24_lamps_back_and_forth(self):
        for kind, rule in kinds_and_rules():
            yard = Yard(kind, rule, "110100111010001101001110")
            error = caught(yard.back, 10 ** 30)
            if error is None:
                self.assertEqual(yard.clock, -10 ** 30)
                yard.beat(10 ** 30)
                self.assertEqual((yard.row, yard.clock), (yard.first, 0))
            else:
                self.assertIs(error.__class__, Loses)
        yard = Yard("walls", (-1, 1), "110100111010001101001110")
        yard.back(10 ** 30)
        self.assertEqual(slow_long_after("walls", (-1, 1), yard.row, 10 ** 30), yard.first)

    def test_back_refused(self):
        self.check_refused("back", "many", [(BadBeats, NO_BEATS + [0])])
        yard = Yard("ring", (-1, 1), "1100")
        for value in (0, True, 10 ** 30 + 1):
            self.assertIs(caught(yard.back, value).__class__, BadBeats)
        self.assertEqual(caught(yard.back, 1).value, 2)
        self.assertEqual(caught(yard.back, many=10 ** 30).value, 2)

    def test_press(self):
        for kind in ("ring", "walls"):
            for row in ("0", "1", "10", "0110"):
                for place in range(len(row)):
                    yard = Yard(kind, (-1, 1), row)
                    self.assertIsNone(yard.press(place))
                    self.assertEqual((yard.row[:place], yard.row[place + 1:]), (row[:place], row[place + 1:]))
                    self.assertEqual((yard.row[place] == "1", yard.clock, yard.done), (row[place] == "0", 0, 1))
                    yard.press(place=place)
                    self.assertEqual((yard.row, yard.done), (row, 2))
        self.check_refused("press", "place", [(BadPlace, NO_INTEGERS + [-1, 5, 6, 10 ** 30])])

    def test_cross(self):
        for kind, row, place, expected in [
                ("ring", "0", 0, "1"), ("ring", "1", 0, "0"), ("ring", "00", 0, "10"), ("ring", "00", 1, "01"),
                ("ring", "11", 1, "10"), ("ring", "000", 1, "111"), ("ring", "000", 0, "111"), ("ring", "0000", 0, "1101"),
                ("ring", "0000", 3, "1011"), ("ring", "00000", 2, "01110"), ("walls", "0", 0, "1"), ("walls", "00", 0, "11"),
                ("walls", "00", 1, "11"), ("walls", "000", 0, "110"), ("walls", "000", 2, "011"), ("walls", "101", 1, "010"),
                ("walls", "0000", 3, "0011"), ("walls", "0000", 1, "1110"), ("walls", "1" * 24, 23, "1" * 22 + "00")]:
            yard = Yard(kind, (0,), row)
            self.assertIsNone(yard.cross(place))
            self.assertEqual((yard.row, yard.clock, yard.done), (expected, 0, 1))
            yard.cross(place=place)
            self.assertEqual(yard.row, row)
        self.check_refused("cross", "place", [(BadPlace, NO_INTEGERS + [-1, 5, 6, 10 ** 30])])

    def test_change(self):
        for kind, rules in (("ring", RULES), ("walls", SOME_EVEN)):
            for rule in rules:
                yard = Yard(kind, (-1, 1), "0110")
                self.assertIsNone(yard.change(rule))
                self.assertEqual((yard.rule, yard.row, yard.clock, yard.done), (rule, "0110", 0, 1))
                yard.change(rule=rule)
                self.assertEqual((yard.rule, yard.done), (rule, 2))
                yard.beat(1)
                self.assertEqual(yard.row, slow_after(kind, rule, "0110", 1))
                for _ in range(3):
                    yard.undo()
                self.assertEqual((yard.rule, yard.row, yard.done), ((-1, 1), "0110", 0))
        self.check_refused("change", "rule", [(BadRule, NO_RULES)])
        yard = Yard("walls", (-1, 1), "0110")
        for rule in UNEVEN:
            error = caught(yard.change, rule)
            self.assertIs(error.__class__, NotEven)
            self.assertIs(error.value, rule)
        for rule in NO_RULES:
            self.assertIs(caught(yard.change, rule).__class__, BadRule)
        self.assertEqual((yard.rule, yard.done), ((-1, 1), 0))

    def test_turn(self):
        for row in ("1", "10", "110", "11010", "110100111010001101001110"):
            yard = Yard("ring", (0, 1), row)
            self.assertIsNone(yard.turn())
            self.assertEqual(yard.row, row[1:] + row[0])
            self.assertEqual([yard.row[place] for place in range(len(row))],
                             [row[(place + 1) % len(row)] for place in range(len(row))])
            for _ in range(len(row) - 1):
                yard.turn()
            self.assertEqual((yard.row, yard.done, yard.clock), (row, len(row), 0))
            yard = Yard("walls", (0,), row)
            self.assertIsNone(yard.turn())
            self.assertEqual(yard.row, row[::-1])


class Seen(unittest.TestCase):
    def test_lamp(self):
        for kind, rule in kinds_and_rules():
            yard = Yard(kind, (0,), "11010")
            yard.change(rule)
            yard.beat(1)
            held = whole(yard)
            for beats in (0, 1, 2, 5, 10 ** 30):
                row = slow_far_after(kind, rule, yard.row, beats)
                for place in range(5):
                    self.assertIs(yard.lamp(place, beats), row[place] == "1")
                    self.assertIs(yard.lamp(beats=beats, place=place), row[place] == "1")
            self.assertEqual(whole(yard), held)
        check_refusals(self, Yard("walls", (-1, 1), "0110").lamp, {"place": 3, "beats": 10 ** 30},
                       [("place", BadPlace, NO_PLACES_OF_4), ("beats", BadBeats, NO_BEATS)])

    def test_looked(self):
        for kind, rule in kinds_and_rules():
            yard = Yard(kind, (0,), "11010")
            yard.press(1)
            yard.change(rule)
            held = whole(yard)
            for places, beats in [((0,), 1), ((0,), 12), ((0, 1, 4), 4), ((2, 3), 6), ((0, 1, 2, 3, 4), 2)]:
                rows = [slow_after(kind, rule, "10010", beat) for beat in range(beats)]
                seen = [(beat, place, int(rows[beat][place])) for beat in range(beats) for place in places]
                told = yard.looked(places, beats)
                self.assertEqual(told, Looks(looks_text(kind, rule, 5, seen)))
                self.assertEqual(told.seen, tuple(seen))
                self.assertEqual(yard.looked(beats=beats, places=places), told)
                self.assertEqual(fits(told)[0], "start")
            self.assertEqual(whole(yard), held)

    def test_looked_at_sixteen_lamps_and_more(self):
        yard = Yard("ring", (-1, 1), "1" + "0" * 15)
        self.assertEqual(yard.looked((0, 15), 6).size, 16)
        self.assertEqual(yard.looked(tuple(range(12)), 1).seen[0], (0, 0, 1))
        for size in (17, 24):
            yard = Yard("ring", (-1, 1), "1" * size)
            for places, beats in [((0,), 1), ((size - 1,), 13), ((0,), None), (tuple(range(17)), 12)]:
                error = caught(yard.looked, places, beats)
                self.assertEqual((error.__class__, error.value), (TooLong, 16))
            self.assertIs(caught(yard.looked, (size,), 1).__class__, BadPlaces)

    def test_looked_refused(self):
        no_beats = NO_BEATS + [0, 13, 14, 10 ** 30]
        check_refusals(self, Yard("walls", (-1, 1), "0110").looked, {"places": (0, 3), "beats": 6},
                       [("places", BadPlaces, NO_PLACES_IN_4), ("beats", BadBeats, no_beats), ("beats", Full, [7, 8, 12], 12)])
        yard = Yard("ring", (-1, 1), "0" * 16)
        for places, beats in [(tuple(range(13)), 1), ((0, 1), 7), ((0, 1, 2, 3, 4), 3), (tuple(range(16)), 12)]:
            error = caught(yard.looked, places, beats)
            self.assertEqual((error.__class__, error.value), (Full, 12))
            self.assertIs(caught(yard.looked, places, 0).__class__, BadBeats)


class UndoAndRedo(unittest.TestCase):
    def test_behind_each_deed(self):
        deeds = [("beat", 3), ("back", 2), ("press", 1), ("cross", 0), ("change", (-6, 0, 6)), ("change", (-6, 0, 6)),
                 ("turn", None), ("beat", 10 ** 30)]
        for kind in ("ring", "walls"):
            yard, states = Yard(kind, (-1, 0, 1), "1101"), []
            for word, value in deeds:
                states.append(state(yard))
                self.assertIsNone(do_deed_on(yard, word, value), word)
                held = state(yard)
                self.assertIsNone(yard.undo())
                self.assertEqual(state(yard), states[-1])
                self.assertIsNone(yard.redo())
                self.assertEqual(state(yard), held)
                self.assertEqual(caught(yard.redo).value, None)
            self.assertEqual(undone(yard), states[::-1])
            for _ in deeds:
                yard.undo()
            self.assertEqual(redone(yard), states[1:] + [held])
            error = caught(yard.undo)
            self.assertEqual((error.__class__, error.value), (NothingToUndo, None))

    def test_another_deed_ends_what_can_be_done_again(self):
        for word, value in [("beat", 1), ("back", 1), ("press", 0), ("cross", 0), ("change", (-1, 0, 1)), ("turn", None)]:
            yard = worked()
            self.assertEqual(len(redone(yard)), 2)
            do_deed_on(yard, word, value)
            error = caught(yard.redo)
            self.assertEqual((error.__class__, error.value), (NothingToRedo, None))
            yard.undo()
            self.assertEqual(len(redone(yard)), 1)

    def test_what_is_refused_ends_nothing(self):
        for word, value in [("beat", 0), ("back", 0), ("press", 5), ("cross", -1), ("change", ()), ("keep", None)]:
            yard = worked()
            held = whole(yard)
            self.assertIsNotNone(do_deed_on(yard, word, value))
            self.assertEqual(whole(yard), held)
        yard = Yard("walls", (-1, 1), "101")
        yard.press(0)
        yard.undo()
        self.assertIs(caught(yard.back, 1).__class__, Loses)
        self.assertIs(caught(yard.change, (1,)).__class__, NotEven)
        yard.lamp(0, 3)
        yard.looked((0,), 1)
        yard.tried(lambda held: held.beat(3))
        yard.redo()
        self.assertEqual((yard.row, yard.done), ("001", 1))

    def test_at_the_ends(self):
        yard = Yard("ring", (0,), "1")
        self.assertEqual((caught(yard.undo).__class__, caught(yard.undo).value), (NothingToUndo, None))
        self.assertEqual((caught(yard.redo).__class__, caught(yard.redo).value), (NothingToRedo, None))
        yard.press(0)
        yard.undo()
        self.assertIs(caught(yard.undo).__class__, NothingToUndo)
        yard.redo()
        self.assertIs(caught(yard.redo).__class__, NothingToRedo)


class Trials(unittest.TestCase):
    def test_not_kept(self):
        yard = worked()
        held = whole(yard)
        with yard.trial() as inner:
            self.assertIs(inner, yard)
            self.assertEqual(whole(yard), held)
            yard.change((0, 1))
            yard.beat(5)
            yard.press(0)
            self.assertEqual(yard.done, 5)
            yard.undo()
        self.assertEqual(whole(yard), held)

    def test_undo_and_redo_go_on_to_what_was_done_ahead(self):
        yard = worked()
        held, ahead, again = whole(yard), undone(yard), redone(yard)
        with yard.trial():
            yard.undo()
            yard.undo()
            self.assertEqual(state(yard), ahead[1])
            self.assertIs(caught(yard.undo).__class__, NothingToUndo)
        self.assertEqual(whole(yard), held)
        with yard.trial():
            yard.redo()
            yard.redo()
            self.assertEqual(state(yard), again[1])
            self.assertIs(caught(yard.redo).__class__, NothingToRedo)
        self.assertEqual(whole(yard), held)
        with yard.trial():
            yard.undo()
            yard.keep()
        self.assertEqual(state(yard), ahead[0])
        self.assertEqual(len(redone(yard)), 3)

    def test_kept(self):
        yard = worked()
        with yard.trial():
            yard.beat(1)
            self.assertIsNone(yard.keep())
            yard.press(0)
            there = whole(yard)
        self.assertEqual(whole(yard), there)
        self.assertEqual(yard.done, 4)
        self.assertEqual((caught(yard.keep).__class__, caught(yard.keep).value), (NoTrial, None))
        yard.undo()
        yard.redo()
        self.assertEqual(state(yard), there[0])

    def test_left_by_an_error(self):
        for error in (KeyError("x"), LampError(1), KeyboardInterrupt()):
            yard = worked()
            held = whole(yard)
            with self.assertRaises(error.__class__) as raised:
                with yard.trial():
                    yard.beat(1)
                    yard.keep()
                    raise error
            self.assertIs(raised.exception, error)
            self.assertEqual(whole(yard), held)
            self.assertIs(caught(yard.keep).__class__, NoTrial)
        with self.assertRaises(BadPlace):
            with yard.trial():
                yard.keep()
                yard.press(5)
        self.assertEqual(whole(yard), held)

    def test_keep_belongs_to_the_innermost_block(self):
        yard = worked()
        held = whole(yard)
        with yard.trial():
            yard.press(0)
            outer = whole(yard)
            with yard.trial():
                yard.press(1)
                with yard.trial():
                    yard.press(2)
                    yard.keep()
                self.assertEqual(yard.done, 5)
            self.assertEqual(whole(yard), outer)
            with yard.trial():
                yard.press(1)
                yard.keep()
                inner = whole(yard)
            self.assertEqual(whole(yard), inner)
        self.assertEqual(whole(yard), held)
        with yard.trial():
            yard.keep()
            with yard.trial():
                yard.press(1)
            yard.press(2)
            there = whole(yard)
        self.assertEqual(whole(yard), there)
        with yard.trial():
            with yard.trial():
                yard.press(3)
                yard.keep()
            kept = whole(yard)
            yard.keep()
        self.assertEqual(whole(yard), kept)

    def test_as_it_was_when_it_was_entered(self):
        yard = worked()
        block = yard.trial()
        self.assertIs(caught(yard.keep).__class__, NoTrial)
        yard.press(0)
        held = whole(yard)
        with block as inner:
            self.assertIs(inner, yard)
            yard.press(1)
        self.assertEqual(whole(yard), held)

    def test_two_yards_at_once(self):
        one, other = worked(), Yard("walls", (0,), "1")
        held = whole(one)
        with one.trial(), other.trial():
            one.press(0)
            other.press(0)
            other.keep()
        self.assertEqual(whole(one), held)
        self.assertEqual(other.row, "0")

    def test_tried(self):
        yard = worked()
        held = whole(yard)
        given = []

        def look(inner):
            given.append(inner)
            inner.press(0)
            return inner.row, given

        result = yard.tried(look)
        self.assertIs(given[0], yard)
        self.assertEqual(result[0][0], str(1 - int(yard.row[0])))
        self.assertIs(result[1], given)
        self.assertEqual(whole(yard), held)
        for value in STRANGE + [1, "True", (True,), [True], False, None, 0]:
            if value is not True:
                yard.tried(look, keep=value)
                self.assertEqual(whole(yard), held, value)
        yard.tried(look=look, keep=True)
        self.assertEqual(yard.done, 3)
        with self.assertRaises(TypeError):
            yard.tried(look, True)

    def test_tried_keeps_or_passes_errors_on(self):
        yard = worked()
        held = whole(yard)

        def keeping(inner):
            inner.press(1)
            inner.keep()

        def nested(inner):
            inner.press(2)
            with inner.trial():
                inner.press(3)
                inner.keep()

        def failing(inner):
            inner.press(0)
            inner.keep()
            raise IndexError("gone")

        for keep in (True, False):
            with self.assertRaises(IndexError):
                yard.tried(failing, keep=keep)
            with self.assertRaises(BadPlace) as raised:
                yard.tried(lambda inner: [inner.press(0), inner.press(5)], keep=keep)
            self.assertEqual(raised.exception.value, 5)
            self.assertEqual(whole(yard), held)
        yard.tried(nested)
        self.assertEqual(whole(yard), held)
        self.assertIsNone(yard.tried(keeping))
        self.assertEqual(yard.done, 3)
        self.assertIs(caught(yard.keep).__class__, NoTrial)
        self.assertEqual(yard.tried(lambda inner: inner.tried(lambda deeper: deeper.press(0), keep=True)), None)
        self.assertEqual(yard.done, 3)
        yard.tried(nested, keep=True)
        self.assertEqual(yard.done, 5)


class Copies(unittest.TestCase):
    def test_alike_in_all_things(self):
        yard = worked()
        other = yard.copy()
        self.assertIsNot(other, yard)
        self.assertEqual(other, yard)
        self.assertEqual(whole(other), whole(yard))
        self.assertEqual((len(undone(other)), len(redone(other))), (2, 2))

    def test_independent(self):
        yard = worked()
        held, other = whole(yard), yard.copy()
        for word, value in [("beat", 1), ("press", 0), ("change", (0,)), ("undo", None), ("turn", None)]:
            do_deed_on(other, word, value)
        self.assertEqual(whole(yard), held)
        there = whole(other)
        yard.redo()
        yard.undo()
        yard.undo()
        self.assertEqual(whole(other), there)

    def test_outside_of_all_blocks(self):
        yard = worked()
        held = whole(yard)
        with yard.trial():
            yard.press(0)
            other = yard.copy()
            there = whole(other)
            self.assertEqual(whole(yard), there)
            self.assertIs(caught(other.keep).__class__, NoTrial)
            with other.trial():
                other.press(1)
                other.keep()
        self.assertEqual(whole(yard), held)
        self.assertEqual(other.done, 4)
        other.undo()
        self.assertEqual(state(other), there[0])


class Live(unittest.TestCase):
    def test_what_was_undone_or_not_kept_leaves_nothing(self):
        chance = random.Random(27)
        for kind, rule in kinds_and_rules():
            yard, plain = Yard(kind, rule, "10110"), Yard(kind, rule, "10110")
            for _ in range(12):
                word, value = some_deed(chance, 5)
                if word in ("undo", "redo"):
                    continue
                yard.tried(lambda inner: [do_deed_on(inner, *some_deed(chance, 5)) for _ in range(4)])
                if do_deed_on(plain, word, value) is None:
                    do_deed_on(yard, word, value)
                    do_deed_on(yard, "turn", None)
                    yard.undo()
                self.assertEqual(state(yard), state(plain))
                self.assertEqual(yard, plain)
                self.assertEqual(read_journal(journal(yard)), plain)
                self.assertEqual(state(read_journal(journal(yard))), state(plain))

    def test_bent_rows_are_refused(self):
        for row in bent("0110"):
            if not isinstance(row, str) or set(row) - set("01") or not row:
                self.assertIs(caught(Yard, "ring", (0,), row).__class__, BadRow)


if __name__ == "__main__":
    unittest.main()
