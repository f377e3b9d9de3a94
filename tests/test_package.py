"""The folder, the interface and the language of the package."""

import ast
import importlib
import inspect
import os
import unittest

from tests.language import breaches, own_names

FOLDER = os.path.join(os.path.dirname(os.path.dirname(os.path.abspath(__file__))), "lampsaloft")

# Each module with what the interface lists for it, in the order in which a module may use those above it.
INTERFACE = {
    "errors": "LampError NoCommand(line) NoText(line, column) TooMany(most) Wrong(place)",
    "fractions": """reduced(n, d) added(one, other) lessened(one, other) times(one, other) over(one, other)
        least_of(fractions) greatest_of(fractions) clipped(one) compared(one, other) floor_of(one) root_floor(n)""",
    "forms": """is_integer(thing) is_fraction(thing) is_name(thing) is_column(thing) is_bounds(thing) is_leg(thing)
        are_legs(thing) is_lamp(thing) is_picture(thing) is_charge(thing) is_scene(bounds, thing) is_show(thing)
        is_edition(many, thing) squared(one, other) way_squared(leg) r_of(bounds) lag_of(bounds) rho_of(bounds, ticks)""",
    "names": "are_shades(thing) shades_text(shades) shade_at(shades, tick) shades_read(text) cycle_of(shades)",
    "shapes": """dots(points) stroke(one, other, stride) chain(points, stride) loop(points, stride)
        disc(middle, radius, stride) rim(middle, radius, stride) frame(one, other, stride) filled(points, stride)
        moved(shape, x, z) mirrored(shape, x) turned(shape, quarters) scaled(shape, many) joined(shapes)
        without(shape, other) common(shape, other) thinned(shape, least) is_within(points, dot) box_of(shape)""",
    "letters": "strokes_of(sign) letter(sign, size, stride) word(text, size, stride, gap)",
    "pictures": """painted(shape, shades, weight) together(pictures) kept(picture, shape) erased(picture, shape)
        weighed(picture, shape, weight) shaded(picture, shape, shades) moved_lamps(picture, x, z)
        mirrored_lamps(picture, x) shape_of(picture) at_tick(picture, tick) is_seen_alike(picture, other)""",
    "picturetexts": "picture_of(text) picture_text(picture)",
    "rows": """rows_of(picture, spacing) most_abreast(picture, spacing) rows_paper(picture, spacing) rows_many(rows)
        is_rows(picture, spacing, thing) is_rows_paper(picture, spacing, thing)""",
    "seats": """seats_of(picture, spacing) fame(picture) goals_of(picture, spacing, many) dark_of(picture, many)
        seen_from(picture, spacing, columns, tick) depth_of(picture, spacing) first_near(columns, spacing)
        closest(columns) are_spaced(columns, spacing) lamp_at(picture, spacing, column)""",
    "least": """squared_way(leg) price_of(legs) least_price(froms, goals, spare) is_choice(froms, goals, spare, thing)
        free_spares(spare, legs) least_legs(froms, goals, spare)""",
    "potentials": "potentials(froms, goals, spare, legs) is_least_paper(froms, goals, spare, legs, thing)",
    "gains": """gained(spare, legs, gain) gained_often(froms, goals, spare, legs) gain_of(froms, goals, spare, legs)
        is_gain(froms, goals, spare, legs, thing)""",
    "crossless": "turn_of(leg, other) crossings(legs) is_crossless(legs) exchanged(legs, i, j) uncrossed(legs)",
    "couples": """place_on(leg, s) corners_of(rho) nearest(leg, other, rho) squared_at(leg, other, s, t) is_within(s, t, rho)
        is_apart(leg, other, rho, r)""",
    "apartpapers": "apart_paper(leg, other, rho, r) is_apart_paper(leg, other, rho, r, thing)",
    "flights": "nearest_of(legs, rho) is_flight_apart(bounds, ticks, legs) least_ticks(bounds, legs)",
    "legtables": """legs_between(froms, tos, way) couples_between(bounds, froms, tos)
        bad_couples(bounds, ticks, froms, tos)""",
    "spacing": """is_enough(bounds, ticks) least_ticks_for_all(bounds) greatest_near(bounds, ticks)
        least_spacing(bounds, ticks)""",
    "worst": "worst_couple(bounds, ticks) is_worst(bounds, ticks, thing)",
    "shows": """hold_needed(bounds) writing_tick(show, scene) charge_needed(show) charge_used(show, editions, carrier)
        timeline(show) stands(show, scene)""",
    "showtexts": "show_text(show) read_show(text)",
    "verdicts": "reasons(show) verdict(show) is_reason(show, thing) is_let_by(show)",
    "editions": """standing_at_first(show) standing_behind(standing, edition) edition_for(show, scene, standing)
        is_stay(edition) is_right_edition(show, scene, standing, thing)""",
    "cells": """window_at(show, now) written(disk, writes) standing_on(show, disk, scene) heard_on(disk, scene)
        writes_of_tick(show, disk, now, reports) edition_on(disk, scene) letters_on(show, disk, now)""",
    "house": "House(show)",
    "carriers": "carrier_at_first(show, number) told(carrier, letter) told_all(carrier, letters) left(carrier)",
    "nights": """is_night(show, thing) is_run(show, night, thing) fall_of(show, night, carrier) struck(show, night)
        run_of(show, night)""",
    "motion": """place_at(show, night, editions, carrier, moment) nearest_ever(show, night, editions)
        breaks(show, night) are_apart_ever(show, night, editions)""",
    "seen": "seen_at(show, night, editions, scene, i) dark_at(show, night, editions, scene, i)",
    "books": "page_of(show, scene, standing) book_of(show) standings_of(show, book)",
    "bookjudge": "is_page(show, scene, standing, thing) is_book(show, thing) first_wrong(show, things)",
    "kept": "changed(show, book, index, scene)",
    "bench": "Bench()",
}

# The methods that the interface lists for a class, each of which the class defines itself.
METHODS = {
    ("house", "House"): "up(reports) cut(reports, many) down(many) now() disk() show() edition(scene) twin()",
    ("bench", "Bench"): "execute(line) pictures() drafts() shows() twin() __eq__(other)",
}


def source_of(module):
    with open(os.path.join(FOLDER, module + ".py"), encoding="utf-8") as file:
        return file.read()


def listed(text):
    """The couples of a name and its arguments that a text of the interface lists."""
    told = []
    for part in text.replace("\n", " ").replace(")", ");").replace("LampError", "LampError;").split(";"):
        name, _, rest = part.strip().partition("(")
        if name:
            told.append((name, [word.strip() for word in rest.rstrip(")").split(",") if word.strip()]))
    return told


class Package(unittest.TestCase):

    def test_folder(self):
        found = sorted([name for name in os.listdir(FOLDER) if name != "__pycache__"])
        self.assertEqual(found, sorted([module + ".py" for module in INTERFACE] + ["__init__.py"]))
        self.assertEqual(source_of("__init__"), "")

    def test_interface(self):
        for module in INTERFACE:
            held = importlib.import_module("lampsaloft." + module)
            for name, arguments in listed(INTERFACE[module]):
                one = getattr(held, name)
                self.assertEqual(one.__module__, held.__name__)
                if name != "LampError":
                    self.assertEqual(list(inspect.signature(one).parameters), arguments, name)

    def test_methods(self):
        for (module, name), text in METHODS.items():
            kind = getattr(importlib.import_module("lampsaloft." + module), name)
            self.assertEqual(len(listed(text)), text.count("("))
            for method, arguments in listed(text):
                self.assertIn(method, vars(kind))
                self.assertEqual(list(inspect.signature(vars(kind)[method]).parameters), ["self"] + arguments)

    def test_each_module_stands_behind_those_it_uses(self):
        # The order of the document: a module may use those above it.
        wanted = """errors fractions forms names shapes letters pictures picturetexts rows seats least potentials gains
            crossless couples apartpapers flights legtables spacing worst shows showtexts verdicts editions cells house
            carriers nights motion seen books bookjudge kept bench"""
        self.assertEqual(list(INTERFACE), wanted.split())

    def test_language(self):
        above = {}
        for module in INTERFACE:
            self.assertEqual(breaches(source_of(module), above), [], module)
            above[module] = own_names(source_of(module))

    def test_docstrings(self):
        for module in INTERFACE:
            for node in ast.walk(ast.parse(source_of(module))):
                if isinstance(node, (ast.Module, ast.ClassDef)):
                    self.assertTrue(ast.get_docstring(node), module)

    def test_language_is_looked_at(self):
        above = {"errors": {"Wrong"}}
        samples = {
            "from os import path\n": "L2", "from lampsaloft.errors import NoText\n": "L2", "import math\n": "L3",
            "A = 1\nfrom math import gcd\n": "L2", "A = [[1], 2]\n": "L15", "A = len([1])\n": "L3", "A = 1\nA = 2\n": "L15",
            "def f(n):\n    return n / 2\n": "L7", "def f(n):\n    return 0.5\n": "L7", "def f(n):\n    return '%'\n": "L27",
            "def f(n):\n    return sum(k for k in n)\n": "L7", "def f(n):\n    yield n\n": "L7",
            "def f(n):\n    print(n)\n": "L8", "def f(*n):\n    return n\n": "L4", "def f(max):\n    return max\n": "L15",
            "def f(n):\n    return n is f\n": "L20", "def f(n):\n    for k in set(n):\n        return k\n": "L24",
            "def f(n):\n    a = set(n)\n    return a\n": "L24", "def f(n):\n    return zip(n, n)\n": "L23",
            "def f(n):\n    return n.encode()\n": "L25", "def f(n):\n    try:\n        return 1\n    finally:\n        pass\n": "L6",
            "def f(n):\n    return 2 ** n\n": "L27", "def f(n):\n" + "    n = 1\n" * 40: "L10", "A = 1  #" + "x" * 120: "L10",
            "from lampsaloft.errors import Wrong\ndef f(Wrong):\n    return 1\n": "L15", "A = 'type'\n": "L17",
            "def f(n):\n    return sorted(n, cmp=1)\n": "L22", "def f(n: int):\n    return n\n": "L21",
        }
        for source, rule in samples.items():
            self.assertIn(rule, [told[0] for told in breaches(source, above)], source)
        self.assertEqual(breaches("from lampsaloft.errors import Wrong\ndef f(n):\n    raise Wrong(n)\n", above), [])
