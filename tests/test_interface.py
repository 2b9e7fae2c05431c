"""Promises 2 and 39 to 60: names and arguments, each defined where the interface lists it."""

import importlib
import inspect
import unittest

from areawalks.alikes import alike_lots
from areawalks.closed import Closed
from areawalks.indexes import tables_of
from areawalks.places import Place
from areawalks.recipes import brewed
from areawalks.roots import powers_to
from areawalks.spheres import sphere_places
from areawalks.tables import Table
from areawalks.views import view_bar

FUNCTIONS = {
    "places": {"home_place": "", "product_of": "places"},
    "least": {
        "steps": "place", "distance": "one other", "least_walk": "place", "walk_of": "place number",
        "areas": "x y number", "nearer": "place", "first_letters": "place", "is_summit": "place",
        "lies_between": "place one other"},
    "spheres": {
        "sphere": "number", "ball": "number", "sphere_places": "number", "walks_to": "place number",
        "least_walks": "place"},
    "recipes": {"brewed": "told recipe"},
    "tables": {"table_bars": "bar table place"},
    "cosets": {
        "in_product": "one other place", "coset_place": "one here other there", "least_moved": "table",
        "viewed": "one other"},
    "indexes": {"count_tables": "index *normal", "tables_of": "index *normal *most"},
    "views": {
        "seen_from": "place here", "viewpoint": "place other", "viewpoint_of_all": "places others",
        "view_bar": "places others", "is_bar": "bar places others"},
    "roots": {
        "root": "place number", "greatest_root": "place", "along": "place", "figures_along": "place other",
        "powers_to": "one other goal"},
    "renamings": {"same_names": "", "renaming_of_view": "here"},
    "alikes": {
        "list_key": "places", "alike": "places others", "lot_key": "places", "alike_lots": "places others"},
    "kings": {"king_most": "number", "king_least": "swept", "king_round": "number swept"},
    "paths": {
        "paths": "x y area", "paths_by_rest": "x y modulus rest", "far_paths": "x y modulus rest prime"}}

CLASSES = {
    "places": {"Place": {
        "__init__": "self x y area", "__eq__": "self other", "__mul__": "self other", "__invert__": "self",
        "power": "self number", "is_home": "self", "lifted": "self storeys", "twist": "self other"}},
    "walks": {"Walk": {
        "__init__": "self told", "__eq__": "self other", "__mul__": "self other", "__invert__": "self",
        "place": "self", "letters": "self", "head": "self number", "tail": "self number", "at": "self number",
        "sides": "self", "turned": "self quarters", "mirrored": "self", "repeated": "self number",
        "is_least": "self", "first_not_least": "self"}},
    "tables": {
        "Table": {
            "__init__": "self told", "__eq__": "self other", "__contains__": "self place", "figures": "self place",
            "rest": "self place", "bar": "self place", "common": "self other", "joint": "self other",
            "inside": "self other", "cosets": "self", "cosets_in": "self other", "is_normal": "self",
            "moved": "self place", "power_in": "self place"},
        "TableBar": {"__init__": "self form modulus remains"}},
    "forwards": {"Forward": {
        "__init__": "self told", "table": "self", "has": "self place", "recipe_of": "self place"}},
    "views": {"ViewBar": {"__init__": "self numbers modulus"}},
    "renamings": {"Renaming": {
        "__init__": "self east north", "__eq__": "self other", "__call__": "self place", "__mul__": "self other",
        "__invert__": "self", "factor": "self", "power": "self number", "order": "self", "index": "self",
        "keeps_steps": "self"}},
    "lots": {"Lot": {
        "__init__": "self east north west south", "__eq__": "self other", "ends": "self", "swept_areas": "self",
        "walk_with": "self area"}},
    "prices": {"Prices": {
        "__init__": "self east north west south", "__eq__": "self other", "price_of": "self walk",
        "least_price": "self place", "cheapest": "self place", "frame": "self place"}},
    "kings": {"KingWalk": {"__init__": "self told", "__eq__": "self other", "ends": "self", "swept": "self"}},
    "closed": {"Closed": {
        "__init__": "self basis", "rest_of": "self place", "steps_between": "self one other",
        "walk_between": "self one other", "least_round": "self", "spread": "self *most"}},
    "formulas": {"Formula": {
        "__init__": "self text", "__eq__": "self other", "names": "self", "place": "self walks"}},
    "promises": {
        "Same": {"__init__": "self text second", "is_kept": "self walks"},
        "Along": {"__init__": "self text second", "is_kept": "self walks"},
        "Between": {"__init__": "self text low high", "is_kept": "self walks"},
        "Cheap": {"__init__": "self text prices most", "is_kept": "self walks"},
        "Within": {"__init__": "self text basis", "is_kept": "self walks"}},
    "book": {"Book": {
        "__init__": "self", "put": "self name walk", "go_on": "self name walk", "take": "self name",
        "keep": "self name promise", "free": "self name", "__getitem__": "self name", "__contains__": "self name",
        "__len__": "self", "names": "self", "promises": "self", "place": "self text", "undo": "self",
        "undoable": "self", "attempt": "self action", "explore": "self action"}}}


def arguments_of(function):
    """The names of the arguments, with a star for each one that is passed by name only."""
    parts = inspect.signature(function).parameters.values()
    return " ".join("*" * (part.kind is part.KEYWORD_ONLY) + part.name for part in parts)


class InterfaceTest(unittest.TestCase):
    def test_functions(self):
        for name, functions in FUNCTIONS.items():
            module = importlib.import_module("areawalks." + name)
            for function, arguments in functions.items():
                found = vars(module)[function]
                self.assertEqual(found.__module__, module.__name__, function)
                self.assertEqual(arguments_of(found), arguments, function)

    def test_classes(self):
        for name, classes in CLASSES.items():
            module = importlib.import_module("areawalks." + name)
            for told, methods in classes.items():
                found = vars(module)[told]
                self.assertEqual(found.__module__, module.__name__, told)
                for method, arguments in methods.items():
                    self.assertEqual(arguments_of(vars(found)[method]), arguments, method)

    def test_properties(self):
        for name, told in (("walks", "Walk"), ("kings", "KingWalk")):
            found = vars(importlib.import_module("areawalks." + name))[told]
            self.assertIsInstance(vars(found)["length"], property)

    def test_default(self):
        closed = importlib.import_module("areawalks.closed")
        self.assertEqual(inspect.signature(closed.Closed.spread).parameters["most"].default, 5000)

    def test_lists_are_new(self):
        told = [Place(2, 1, 0), Place(0, 3, 1)]
        floor = Closed(Table([Place(2, 0, 0), Place(0, 2, 0), Place(0, 0, 2)]))
        for call in (
                lambda: brewed(told, [(1, 2, 2)]), lambda: sphere_places(2), lambda: tables_of(4),
                lambda: powers_to(Place(2, 0, 0), Place(3, 0, 0), Place(1, 0, 0))[1],
                lambda: alike_lots(told, told[::-1])[1], lambda: view_bar([Place(4, 6, 0)], [Place(4, 6, 1)]).numbers,
                floor.spread):
            first = call()
            self.assertIs(first.__class__, list)
            kept = list(first)
            first.append("more")
            self.assertEqual(call(), kept)
        self.assertEqual(told, [Place(2, 1, 0), Place(0, 3, 1)])

    def test_objects_are_no_keys(self):
        for name, told, arguments in (
                ("places", "Place", (0, 0, 0)), ("walks", "Walk", ("",)), ("tables", "Table", ([],)),
                ("lots", "Lot", (0, 0, 0, 0)), ("formulas", "Formula", ("a",))):
            value = getattr(importlib.import_module("areawalks." + name), told)(*arguments)
            self.assertRaises(TypeError, hash, value)


if __name__ == "__main__":
    unittest.main()
