"""Promises 2 and 39 to 45: names and arguments, each defined where the interface lists it."""

import importlib
import inspect
import unittest

FUNCTIONS = {
    "places": {"home_place": "", "product_of": "places"},
    "least": {
        "steps": "place", "distance": "one other", "least_walk": "place", "walk_of": "place number",
        "areas": "x y number", "nearer": "place", "first_letters": "place", "is_summit": "place",
        "lies_between": "place one other"},
    "spheres": {
        "sphere": "number", "ball": "number", "sphere_places": "number", "walks_to": "place number",
        "least_walks": "place"},
    "recipes": {"brewed": "told recipe"},
    "tables": {"table_bars": "bar table place"},
    "cosets": {
        "in_product": "one other place", "coset_place": "one here other there", "least_moved": "table",
        "viewed": "one other"},
    "indexes": {"count_tables": "index *normal", "tables_of": "index *normal *most"},
    "views": {
        "seen_from": "place here", "viewpoint": "place other", "viewpoint_of_all": "places others",
        "view_bar": "places others", "is_bar": "bar places others"},
    "roots": {
        "root": "place number", "greatest_root": "place", "along": "place", "figures_along": "place other",
        "powers_to": "one other goal"},
    "renamings": {"same_names": "", "renaming_of_view": "here"},
    "alikes": {
        "list_key": "places", "alike": "places others", "lot_key": "places", "alike_lots": "places others"}}

CLASSES = {
    "places": {"Place": {
        "__init__": "self x y area", "__eq__": "self other", "__mul__": "self other", "__invert__": "self",
        "power": "self number", "is_home": "self", "lifted": "self storeys", "twist": "self other"}},
    "walks": {"Walk": {
        "__init__": "self told", "__eq__": "self other", "__mul__": "self other", "__invert__": "self",
        "place": "self", "letters": "self", "head": "self number", "tail": "self number", "at": "self number",
        "sides": "self", "turned": "self quarters", "mirrored": "self", "repeated": "self number",
        "is_least": "self", "first_not_least": "self"}},
    "tables": {
        "Table": {
            "__init__": "self told", "__eq__": "self other", "__contains__": "self place", "figures": "self place",
            "rest": "self place", "bar": "self place", "common": "self other", "joint": "self other",
            "inside": "self other", "cosets": "self", "cosets_in": "self other", "is_normal": "self",
            "moved": "self place", "power_in": "self place"},
        "TableBar": {"__init__": "self form modulus remains"}},
    "forwards": {"Forward": {
        "__init__": "self told", "table": "self", "has": "self place", "recipe_of": "self place"}},
    "views": {"ViewBar": {"__init__": "self numbers modulus"}},
    "renamings": {"Renaming": {
        "__init__": "self east north", "__eq__": "self other", "__call__": "self place", "__mul__": "self other",
        "__invert__": "self", "factor": "self", "power": "self number", "order": "self", "index": "self",
        "keeps_steps": "self"}}}


def arguments_of(function):
    """The names of the arguments, with a star for each one that is passed by name only."""
    parts = inspect.signature(function).parameters.values()
    return " ".join("*" * (part.kind is part.KEYWORD_ONLY) + part.name for part in parts)


class InterfaceTest(unittest.TestCase):
    def test_functions(self):
        for name, functions in FUNCTIONS.items():
            module = importlib.import_module("areawalks." + name)
            for function, arguments in functions.items():
                found = vars(module)[function]
                self.assertEqual(found.__module__, module.__name__, function)
                self.assertEqual(arguments_of(found), arguments, function)

    def test_classes(self):
        for name, classes in CLASSES.items():
            module = importlib.import_module("areawalks." + name)
            for told, methods in classes.items():
                found = vars(module)[told]
                self.assertEqual(found.__module__, module.__name__, told)
                for method, arguments in methods.items():
                    self.assertEqual(arguments_of(vars(found)[method]), arguments, method)

    def test_property(self):
        walks = importlib.import_module("areawalks.walks")
        self.assertIsInstance(vars(walks.Walk)["length"], property)

    def test_objects_are_no_keys(self):
        for name, told, arguments in (("places", "Place", (0, 0, 0)), ("walks", "Walk", ("",)), ("tables", "Table", ([],))):
            value = getattr(importlib.import_module("areawalks." + name), told)(*arguments)
            self.assertRaises(TypeError, hash, value)


if __name__ == "__main__":
    unittest.main()
