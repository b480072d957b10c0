"""The examples of points 4 to 31, as the document prints them, and those of the README."""

import doctest
import unittest
from pathlib import Path

README = Path(__file__).resolve().parent.parent / "README.md"

EXAMPLES = """
>>> from beatlamps.polys import common, core, parted, plus, power, times
>>> [plus((0, 1), (1, 2)), times((0, 1), (0, 1)), parted((0, 3), (0, 1)), common((0, 2), (0, 3))[0], core((2, 5))]
[(0, 2), (0, 2), ((0, 1, 2), ()), (0, 1), (2, (0, 3))]
>>> [power((1,), 10 ** 30, (0, 1, 2)), power((0, 1), 4, (0, 7)), power((0, 1), 0, (0,))]
[(1,), (0, 4), ()]

>>> from beatlamps.measures import measure, measured, shared
>>> from beatlamps.plain import factors, is_plain, root
>>> [is_plain((0, 1, 2)), factors((0, 4)), factors((1, 4)), root((0, 2, 4)), root((0, 1))]
[True, (((0, 1), 4),), (((0, 1), 1), ((0, 1, 2), 1), ((1,), 1)), (0, 1, 2), None]
>>> [measure((0, 1, 2)), measure((0, 2)), measured((1, 2, 3)), shared((0, 1, 2), 6), shared((0, 2, 4), 6 * 10 ** 29)]
[3, 2, (((0, 1, 2), 1, 3),), 2, 4]

>>> from beatlamps.rules import in_cross, is_even, joined, of_cross, polynomial, turned
>>> [polynomial((-1, 0, 2)), turned((-1, 0, 2)), is_even((-2, 0, 2)), joined((-1, 1), (-1, 1)), joined((0, 1), (0, 1, 2))]
[(-1, (0, 1, 3)), (-2, 0, 1), True, (-2, 2), (0, 3)]
>>> [in_cross((-2, 0, 2)), of_cross((0, 1)), of_cross((3,)), in_cross((0,))]
[(0, 2), (-1, 0, 1), (-3, -1, 1, 3), (0,)]

>>> from beatlamps.rows import after, beat_offsets, summed, unfolded, wall_polynomial
>>> [after('ring', (-1, 1), '0010000', 1), after('walls', (-1, 1), '1000', 2), after('ring', (0, 1), '00001', 4), unfolded('110')]
['0101000', '1010', '10001', '01100011']
>>> [wall_polynomial(3), wall_polynomial(4), beat_offsets((-1, 0, 1), 7, 10 ** 30), summed('110', '011')]
[(3,), (0, 2, 4), (0, 1, 6), '101']

>>> from beatlamps.alike import alike_on, alike_sizes
>>> [alike_sizes('ring', (-1, 1), (-2, 2)), alike_sizes('ring', (0, 6), (0, 2)), alike_sizes('walls', (-1, 0, 1), (-2, 0, 2)), alike_on('ring', (0, 1), (0, 1, 2, 3), 2)]
[('sizes', (1, 2, 3)), ('sizes', (1, 2, 4)), ('sizes', (1,)), False]

>>> from beatlamps.gardens import ahead, all_ahead, lost, shows_ahead, undoing
>>> [ahead('ring', (-1, 1), '1000')[0], shows_ahead('ring', (-1, 1), '1010', ('row', '0100')), lost('ring', (-1, 0, 1), 6), lost('walls', (-1, 1), 3)]
['garden', True, 2, 1]
>>> [all_ahead('ring', (-1, 1), '1010'), undoing((-1, 0, 1), 4), undoing((1,), 5)]
[('0001', '0100', '1011', '1110'), (0, 1, 3), (4,)]
"""

FLOORS = """
>>> from beatlamps.loops import comes_to, loops, period, periods, tail, tails
>>> from beatlamps.own import own, own_row
>>> [own('ring', (-1, 1), 3), own('walls', (-1, 1), 4), own_row('ring', (-1, 1), '110'), tails('walls', (-1, 1), 3), periods('walls', (-1, 1), 4)]
[(1, 2), (0, 2, 4), (0, 1), 3, 6]
>>> [loops('ring', (-1, 1), 3), loops('walls', (-1, 1), 2), tail('walls', (-1, 1), '100'), period('ring', (1,), '0101'), comes_to('ring', (1,), '0001', '0100')]
[((1, 4),), ((1, 2), (2, 1)), 3, 2, 2]

>>> from beatlamps.allrings import first_lost, kept, losing, lost_at, most_lost
>>> [losing((-1, 0, 1)), losing((1,)), lost_at((-1, 0, 1), 3 * 10 ** 29), lost_at((-1, 1), 5), most_lost((-1, 1)), first_lost((-1, 1), 3), kept((-1, 0, 1), 10)]
[(3,), (), 2, 1, (2, 2), None, 7]

>>> from beatlamps.darkening import darkens, same_lost
>>> [darkens((0, 1), (0, 2)), darkens((0, 2), (0, 1)), same_lost((0, 1), (-1, 1)), same_lost((0, 1, 3), (0, 2, 3))]
[('always', (0, 1)), ('size', 2, (0, 1), 2), ('size', 2), ('always',)]

>>> from beatlamps.floors import fewest_presses, floor_lost, pressed, presses_for, shows_all_on
>>> [pressed('walls', True, ('000', '010', '000')), pressed('ring', False, ('10', '00')), presses_for('walls', True, ('10', '00')), floor_lost('walls', True, 5, 5)]
[('010', '111', '010'), ('00', '00'), ('presses', ('11', '10')), 2]
>>> [floor_lost('walls', False, 2, 2), presses_for('walls', False, ('10', '00'))[0], fewest_presses('walls', False, ('11', '11'))[0], shows_all_on('walls', 1, 2, ('10',))]
[2, 'barred', 2, True]

>>> from beatlamps.chasing import chased, last_row
>>> [last_row(True, 3, '100'), last_row(False, 1, '10'), chased(True, ('110', '100', '000'))]
['011', '01', (('000', '110', '101'), '011')]
"""


EVERY_SIZE = """
>>> from beatlamps.entries import entries, entry, shared_size, stands, wall_at
>>> [entry((0, 1)), entry((0, 1, 2)), stands((0, 1), 5), stands((1,), 7), wall_at(True, 2), entries(False, 5), shared_size(5, 8)]
[3, 5, 4, 7, (2,), (((0, 1), 4, 3), ((1,), 1, 2)), 2]
>>> from beatlamps.everyfloor import first_floor, floor_lost_at, kept_floors, losing_floors, most_floor
>>> [floor_lost_at(True, 5, 5), floor_lost_at(False, 5, 5), first_floor(True, 5, 2), most_floor(True, 5), losing_floors(True, 5), kept_floors(True, 5, 10)]
[2, 5, 3, (5, 23), (2, 3), 3]

>>> from beatlamps.allwalls import darkens_between, first_lost_between, kept_between, losing_between, lost_between
>>> from beatlamps.allwalls import most_lost_between
>>> from beatlamps.tubes import tube_lost_at, tube_rule
>>> from beatlamps.unfolding import is_quiet, spread
>>> [spread(False, ('10', '01'), 5, 2), is_quiet(True, ('1',)), tube_rule(True, 1), tube_rule(False, 2), tube_lost_at(True, 1, 3 * 10 ** 20)]
[('10', '01', '00', '01', '10'), False, (-1, 0, 1), (-2, 0, 2), 2]
>>> [losing_between((-1, 1)), losing_between((-2, 0, 2)), lost_between((-2, 2), 10 ** 30 - 1), most_lost_between((-2, 0, 2)), first_lost_between((-2, 2), 2), kept_between((-1, 0, 1), 10)]
[(2,), (3,), 2, (2, 2), 3, 7]
>>> [darkens_between((-1, 1), (-2, 2)), darkens_between((-2, 2), (-1, 1))]
[('always', (1,)), ('size', 3, (1,), 2)]
"""


ENDLESS = """
>>> from beatlamps.endless import after_endless, copied, lamp
>>> from beatlamps.finite import ahead_endless, always_ahead
>>> from beatlamps.lit import alike_lit, lit, most_lit
>>> [after_endless((-1, 1), (0,), 2), copied((0, 1), (0, 5), 3), lamp((-1, 1), (0,), 2 ** 99, 2 ** 99), lamp((-1, 1), (0,), 3, 0)]
[(-2, 2), (-8, -3, 0, 5), True, False]
>>> [lit((-1, 0, 1), 3), lit((0, 1), 2 ** 99 + 1), most_lit((0, 1), 3), alike_lit((0, 1), (-1, 1)), alike_lit((0, 1), (0, 1, 2))]
[5, 4, (8, 7), ('always',), ('beats', 1)]
>>> [ahead_endless((0, 1), (0, 3)), ahead_endless((0, 1), (0,)), always_ahead((0, 1), (0, 2))]
[('picture', (1, 2, 3)), ('never', '1'), (2, (2,))]
"""

LOOKS = """
>>> from beatlamps.looks import fits, Looks, open_starts, shows_fits
>>> from beatlamps.sure import further, needless, sure, sure_from
>>> from beatlamps.wrong import believed, least_wrong
>>> three = Looks('kind ring\\nsize 3\\nrule -1 1\\nlook 0 0 1\\nlook 1 0 1')
>>> [open_starts(three), sure(three, 10 ** 20, 0), sure_from(three, 0), sure(three, 0, 1)[0], sure_from(three, 1), needless(three)]
[1, ('sure', 1, (1,)), 0, 'open', None, ()]
>>> [further(three, ((0, 1), (5, 0))), further(three, ((3, 0), (5, 0))), shows_fits(three, ('start', '101')), believed(three, 1, 1, 0)[0]]
[('looks', (0,)), ('hidden', '011'), True, 'open']
>>> torn = three.with_look((2, 0, 0))
>>> [fits(torn), least_wrong(torn)[0], believed(torn, 0, 0, 0), believed(torn, 1, 0, 0)]
[('quarrel', (1, 2)), 1, ('none',), ('surely', 1)]
"""

HANDS = """
>>> from beatlamps.hands import led, soonest, steered, steers_all
>>> from beatlamps.places import bar, fewest_places, hidden_between, tells_all
>>> [tells_all('ring', (-1, 1), 3, (0,)), tells_all('ring', (-1, 1), 3, (0, 1)), tells_all('walls', (-1, 1), 4, (0,)), bar('ring', (-1, 1), 3)]
[('unseen', '011'), ('all', 2), ('all', 4), (2, (0, 1))]
>>> [fewest_places('ring', (-1, 1), 3)[1], steers_all('walls', (-1, 1), 4, (3,)), led('walls', (-1, 1), '0000', ((0,), (), (0,)))]
[(((0,), '011'), ((1,), '101'), ((2,), '110')), ('all', 4), '0010']
>>> [hidden_between((5,), 8), hidden_between((1, 2), 10 ** 30), soonest('walls', (-1, 1), (0,), '0100'), steered('ring', (-1, 1), (0,), '000', '010', 5)[0], steered('ring', (1,), (0,), '100', '001', 1)]
[2, 0, ('beats', 2, ((0,), ())), 'never', ('presses', ((),))]
"""

YARDS = """
>>> from beatlamps.desk import Desk
>>> from beatlamps.journals import journal
>>> from beatlamps.yards import Yard
>>> yard = Yard('ring', (-1, 0, 1), '10000')
>>> [yard.beat(1), yard.row, yard.press(2), yard.row, yard.back(1), yard.row, yard.clock, yard.lamp(0, 10 ** 20), yard.undo(), yard.row, yard.done, 0 in yard]
[None, '11001', None, '11101', None, '00101', 0, True, None, '11101', 2, True]
>>> journal(yard).split('\\n')
['kind ring', 'rule -1 0 1', 'row 10000', 'beat 1', 'press 2']
>>> desk = Desk(journal(yard))
>>> [desk.say(line) for line in ('row', 'lost', 'tail', 'ahead', 'cross 0', 'row', 'clock', 'tells 0', 'lamp 0 0')]
['11101', '0', '0', 'row', 'ok', '00100', '1', 'unseen', 'off']
"""


class Examples(unittest.TestCase):
    def check(self, text, many):
        examples = doctest.DocTestParser().get_doctest(text, {}, "examples", None, 0)
        outcome = doctest.DocTestRunner(verbose=False).run(examples)
        self.assertEqual((outcome.failed, outcome.attempted), (0, many))

    def test_points_4_to_12(self):
        self.check(EXAMPLES, 18)

    def test_points_13_to_17(self):
        self.check(FLOORS, 13)

    def test_points_18_to_21(self):
        self.check(EVERY_SIZE, 11)

    def test_points_22_to_24(self):
        self.check(ENDLESS, 6)

    def test_points_25_to_27(self):
        self.check(LOOKS, 8)

    def test_points_28_and_29(self):
        self.check(HANDS, 5)

    def test_points_30_and_31(self):
        self.check(YARDS, 8)

    def test_readme(self):
        self.check(README.read_text().replace("```", ""), 29)


if __name__ == "__main__":
    unittest.main()
