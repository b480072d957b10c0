"""The interface: names, parameters, files, and what holds of all of them."""

import ast
import unittest
from importlib import import_module
from pathlib import Path

from beatlamps.looks import Looks
from beatlamps.journals import read_journal
from beatlamps.yards import Yard
from tests.helper import TEXT

PACKAGE = Path(__file__).resolve().parent.parent / "beatlamps"
INTERFACE = {
    "polys": "plus(one, other) times(one, other) parted(one, other) common(one, other)"
             " shows_common(one, other, value) core(one) power(one, beats, modulo)",
    "plain": "is_plain(one) factors(one) root(one)",
    "measures": "measure(one) measured(one) shared(one, size)",
    "rules": "polynomial(rule) turned(rule) is_even(rule) joined(one, other) in_cross(rule) of_cross(powers)",
    "rows": "after(kind, rule, row, beats) unfolded(row) summed(one, other) beat_offsets(rule, size, beats)"
            " wall_polynomial(size)",
    "alike": "alike_on(kind, one, other, size) alike_sizes(kind, one, other)",
    "gardens": "ahead(kind, rule, row) shows_ahead(kind, rule, row, value) lost(kind, rule, size)"
               " dark_rows(kind, rule, size) shows_dark_rows(kind, rule, size, value) all_marks(kind, rule, size)"
               " shows_all_marks(kind, rule, size, value) all_ahead(kind, rule, row) undoing(rule, size)",
    "deeper": "depth(kind, rule, row) shows_depth(kind, rule, row, value) before(kind, rule, row, beats)"
              " shows_before(kind, rule, row, beats, value)",
    "own": "own_row(kind, rule, row) own(kind, rule, size)",
    "loops": "tail(kind, rule, row) period(kind, rule, row) tails(kind, rule, size) periods(kind, rule, size)"
             " loops(kind, rule, size) comes_to(kind, rule, one, other)",
    "allrings": "lost_at(rule, size) losing(rule) first_lost(rule, many) most_lost(rule) kept(rule, bound)",
    "darkening": "darkens(one, other) shows_darkens(one, other, value) same_lost(one, other)",
    "floors": "pressed(sides, middle, presses) presses_for(sides, middle, floor)"
              " shows_presses_for(sides, middle, floor, value) floor_lost(sides, middle, high, wide)"
              " quiet(sides, middle, high, wide) shows_quiet(sides, middle, high, wide, value)"
              " fewest_presses(sides, middle, floor) shows_fewest_presses(sides, middle, floor, value)"
              " all_on(sides, high, wide) shows_all_on(sides, high, wide, value)",
    "chasing": "chased(middle, floor) last_row(middle, high, first)",
    "entries": "entry(factor) stands(factor, size) wall_at(middle, high) entries(middle, high)"
               " shared_size(one, other)",
    "everyfloor": "floor_lost_at(middle, high, wide) losing_floors(middle, high) first_floor(middle, high, many)"
                  " most_floor(middle, high) kept_floors(middle, high, bound)",
    "unfolding": "spread(middle, presses, high, wide) is_quiet(middle, presses)",
    "tubes": "tube_rule(middle, high) tube_lost_at(middle, high, size)",
    "allwalls": "lost_between(rule, size) losing_between(rule) first_lost_between(rule, many)"
                " most_lost_between(rule) kept_between(rule, bound) darkens_between(one, other)"
                " shows_darkens_between(one, other, value)",
    "endless": "after_endless(rule, picture, beats) copied(rule, picture, doublings) lamp(rule, picture, beats, place)",
    "lit": "lit(rule, beats) most_lit(rule, doublings) alike_lit(one, other)",
    "finite": "ahead_endless(rule, picture) shows_ahead_endless(rule, picture, value) always_ahead(rule, picture)",
    "looks": "fits(looks) shows_fits(looks, value) open_starts(looks)",
    "sure": "sure(looks, beat, place) shows_sure(looks, beat, place, value) sure_from(looks, place) needless(looks)"
            " further(looks, offers) shows_further(looks, offers, value)",
    "wrong": "least_wrong(looks) shows_least_wrong(looks, value) believed(looks, most, beat, place)"
             " shows_believed(looks, most, beat, place, value)",
    "places": "tells_all(kind, rule, size, places) shows_tells_all(kind, rule, size, places, value)"
              " fewest_places(kind, rule, size) shows_fewest_places(kind, rule, size, value) bar(kind, rule, size)"
              " shows_bar(kind, rule, size, value) hidden_between(places, size)",
    "hands": "led(kind, rule, row, presses) steered(kind, rule, places, row, goal, beats)"
             " shows_steered(kind, rule, places, row, goal, beats, value) soonest(kind, rule, places, goal)"
             " shows_soonest(kind, rule, places, goal, value) steers_all(kind, rule, size, places)"
             " shows_steers_all(kind, rule, size, places, value)",
    "journals": "journal(yard) read_journal(text)",
}
JOURNAL = "kind ring\nrule 0 1\nrow 110\nbeat 5\nturn"
# Of each class its file, the parameters, right values for them, its methods, and what is set on its objects.
CLASSES = {
    "Looks": ("looks", ["text"], [TEXT], {"with_look": ["look"], "without": ["number"]},
              {"text": TEXT, "kind": "walls", "size": 4, "rule": (-1, 1), "seen": ((0, 0, 1), (3, 2, 0), (3, 0, 1))}),
    "Yard": ("yards", ["kind", "rule", "row"], ["ring", (0, 1), "110"],
             {"beat": ["many"], "back": ["many"], "press": ["place"], "cross": ["place"], "change": ["rule"], "turn": [],
              "lamp": ["place", "beats"], "looked": ["places", "beats"], "undo": [], "redo": [], "trial": [], "keep": [],
              "tried": ["look"], "copy": []},
             {"kind": "ring", "rule": (0, 1), "row": "110", "first": "110", "clock": 0, "done": 0}),
    "Desk": ("desk", ["text"], [JOURNAL], {"say": ["line"]}, {"yard": read_journal(JOURNAL)}),
}
RIGHT = {"kind": "walls", "rule": (-1, 1), "row": "101", "size": 3, "beats": 5, "one": (-1, 1), "other": (-1, 0, 1),
         "powers": (0, 1), "modulo": (0, 2), "value": None, "many": 1, "bound": 10, "sides": "tube", "middle": True,
         "presses": ("101", "011"), "floor": ("111", "111"), "high": 2, "wide": 3, "first": "110",
         "factor": (0, 1), "picture": (0, 3), "doublings": 5, "place": 2, "looks": Looks(TEXT), "beat": 6,
         "offers": ((1, 0), (5, 2)), "most": 1, "places": (0, 2), "goal": "011", "yard": Yard("ring", (0, 1), "110"),
         "text": JOURNAL}
POLYNOMIALS = {**RIGHT, "one": (0, 2), "other": (0, 3)}
ROWS = {**RIGHT, "one": "110", "other": "011"}


def told():
    """All (file, name, parameters) of the interface."""
    for file, text in INTERFACE.items():
        for form in text.replace(", ", ",").split():
            name, parameters = form.rstrip(")").split("(")
            yield file, name, parameters.split(",")


def right_values(file, name, parameters):
    values = ROWS if name in ("summed", "comes_to") else POLYNOMIALS if file in ("polys", "plain", "measures") else RIGHT
    if name == "undoing":
        values = {**values, "rule": (-1, 0, 1), "size": 4}
    if name == "shared_size":
        values = {**values, "one": 5, "other": 8}
    if name == "spread":
        values = {**values, "presses": ("101", "101"), "high": 5}
    if name == "led":
        values = {**values, "presses": ((0,), (), (1, 2))}
    return {parameter: values[parameter] for parameter in parameters}


def no_lists(value):
    if isinstance(value, tuple):
        return all([no_lists(part) for part in value])
    return value is None or isinstance(value, (bool, int, str))


class Interface(unittest.TestCase):
    def test_nothing_of_the_document_is_left_out(self):
        self.assertEqual(len(list(told())), 126)
        self.assertEqual(len({name for _, name, _ in told()}), 126)
        for file, name, parameters in told():
            if name.startswith("shows_"):
                self.assertIn((file, name[6:], parameters[:-1]), list(told()))
                self.assertEqual(parameters[-1], "value")

    def test_names_parameters_and_files(self):
        for file, name, parameters in told():
            tree = ast.parse((PACKAGE / f"{file}.py").read_text())
            found = [node for node in tree.body if isinstance(node, ast.FunctionDef) and node.name == name]
            self.assertEqual(len(found), 1, name)
            self.assertEqual([argument.arg for argument in found[0].args.args], parameters, name)
            self.assertEqual(found[0].args.defaults, [])

    def test_calls_are_alike_and_change_nothing(self):
        for file, name, parameters in told():
            function = getattr(import_module(f"beatlamps.{file}"), name)
            values = right_values(file, name, parameters)
            held = dict(values)
            result = function(*values.values())
            self.assertEqual(function(**values), result)
            self.assertEqual(function(**dict(reversed(values.items()))), result)
            self.assertEqual(values, held)
            self.assertTrue(no_lists(result) or name == "read_journal", name)
            if name.startswith("shows_") or name.startswith("is_") or name == "alike_on":
                self.assertIs(result.__class__, bool)

    def test_classes(self):
        for name, (file, parameters, values, methods, attributes) in CLASSES.items():
            tree = ast.parse((PACKAGE / f"{file}.py").read_text())
            found = [node for node in tree.body if isinstance(node, ast.ClassDef) and node.name == name]
            self.assertEqual(len(found), 1, name)
            told = {node.name: node.args for node in found[0].body if isinstance(node, ast.FunctionDef)}
            for method, further in {"__init__": parameters, **methods}.items():
                self.assertEqual([argument.arg for argument in told[method].args], ["self"] + further, method)
                self.assertEqual(told[method].defaults, [])
                self.assertEqual([argument.arg for argument in told[method].kwonlyargs], ["keep"] * (method == "tried"))
            thing = getattr(import_module(f"beatlamps.{file}"), name)
            for made in (thing(*values), thing(**dict(zip(parameters, values)))):
                self.assertEqual({at: getattr(made, at) for at in attributes}, attributes)


if __name__ == "__main__":
    unittest.main()
