"""Promises 2, 59 and 61: promises about walks."""

import itertools
import unittest

from areawalks.errors import BadNumber, BadText, NoWalk
from areawalks.places import Place
from areawalks.prices import Prices
from areawalks.promises import Along, Between, Cheap, Same, Within
from areawalks.tables import Table
from areawalks.walks import Walk
from tests.samples import HUGE, assert_raises, no_integers, values_of_all_kinds

LIKE = Prices(1, 1, 1, 1)
WALKS = {"a": Walk([("e", 2)]), "b": Walk([("n", 3)]), "c": Walk("enws"), "d": Walk("ne")}
WRONG_TEXTS = [("", 0), ("back", 1), ("a )", 1), (" a", 0), ("a  b", 1), ("( a", 2), ("2 A", 1), (None, 0)]


class PromisesTest(unittest.TestCase):
    def assert_kept(self, promise, kept):
        self.assertIs(promise.is_kept(WALKS), kept)
        self.assertIs(promise.is_kept(walks=dict(WALKS)), kept)

    def test_examples(self):
        self.assert_kept(Same("a b", "b a"), False)
        self.assert_kept(Along("a", "2 a"), True)
        self.assert_kept(Cheap("a b", LIKE, 5), True)
        self.assert_kept(Within("a", Table([Place(1, 0, 0)])), True)

    def test_attributes_and_names(self):
        table = Table([Place(1, 0, 0)])
        for promise, fields in (
                (Same(second="b", text="a"), {"text": "a", "second": "b"}),
                (Along(second="b a", text="a"), {"text": "a", "second": "b a"}),
                (Between(high=5, low=-2, text="a"), {"text": "a", "low": -2, "high": 5}),
                (Cheap(most=5, prices=LIKE, text="a"), {"text": "a", "prices": LIKE, "most": 5}),
                (Within(basis=table, text="a"), {"text": "a", "basis": table})):
            for name, value in fields.items():
                self.assertIs(getattr(promise, name), value)
            self.assertTrue(promise == promise)
            self.assertFalse(promise == promise.__class__(**fields))

    def test_same(self):
        for text, second, kept in (
                ("a", "a", True), ("a", "b", False), ("a b", "b a", False), ("a b", "back c b a", False),
                ("a b", "b a 6 c", True), ("a b", "b a 5 c", False), ("0 a", "0 b", True), ("back ( a b )", "back b back a", True)):
            self.assert_kept(Same(text, second), kept)
            self.assert_kept(Same(second, text), kept)

    def test_along(self):
        for text, second, kept in (
                ("a", "a", True), ("a", "-3 a", True), ("a", "b", False), ("a c", "a", True), ("c", "b", True),
                ("a b", "b a", True), ("0 a", "b", True), ("a b", "2 ( a b ) c", True), ("a b", "a b b", False)):
            self.assert_kept(Along(text, second), kept)
            self.assert_kept(Along(second, text), kept)
            self.assert_kept(Same(f"{text} {second}", f"{second} {text}"), kept)

    def test_between(self):
        for low, high, kept in (
                (6, 6, True), (0, 6, True), (6, 9, True), (7, 9, False), (0, 5, False), (9, 0, False), (7, 5, False),
                (-HUGE, HUGE, True), (HUGE, HUGE, False)):
            self.assert_kept(Between("a b", low, high), kept)
            # The way back of (2, 3, 6) is (-2, -3, 0), and six storeys make its area 6.
            self.assert_kept(Between("back ( a b ) 6 c", low, high), kept)

    def test_cheap(self):
        unlike = Prices(1, 5, 1, 5)
        for text, prices, least in (
                ("a b", LIKE, 5), ("6 c", LIKE, 10), ("6 c", unlike, 22), ("c", unlike, 12), ("0 a", unlike, 0), ("a", unlike, 2)):
            for most, kept in ((least, True), (least - 1, False), (least + 1, True), (HUGE, True), (-HUGE, False)):
                self.assert_kept(Cheap(text, prices, most), kept)

    def test_within(self):
        table = Table([Place(2, 0, 0), Place(0, 3, 0)])
        for text, kept in (
                ("a", True), ("b", True), ("a b", True), ("b a", True), ("c", False), ("6 c", True), ("5 c", False),
                ("a b c", False), ("d", False), ("0 d", True), ("-4 ( a b )", True)):
            self.assert_kept(Within(text, table), kept)

    def test_walks_that_are_missing(self):
        for text, second, name in (
                ("x", "a", "x"), ("a", "x", "x"), ("x", "y", "x"), ("a y", "x", "y"), ("0 y", "x", "y"), ("a", "b 0 x y", "x")):
            assert_raises(self, NoWalk, {"name": name}, Same(text, second).is_kept, WALKS)
            assert_raises(self, NoWalk, {"name": name}, Along(text, second).is_kept, WALKS)
        for text, name in (("x", "x"), ("a y x", "y"), ("0 ( a x )", "x")):
            for promise in (Between(text, 0, 1), Cheap(text, LIKE, 5), Within(text, Table([]))):
                assert_raises(self, NoWalk, {"name": name}, promise.is_kept, WALKS)

    def test_wrong_texts(self):
        for text, number in WRONG_TEXTS:
            fields = {"number": number}
            for kind in (Same, Along):
                assert_raises(self, BadText, fields, kind, text, "a")
                assert_raises(self, BadText, fields, kind, text, "a ( b")
                assert_raises(self, BadText, fields, kind, "a", text)
            assert_raises(self, BadText, fields, Between, text, 0, 1)
            assert_raises(self, BadText, fields, Between, text, None, None)
            assert_raises(self, BadText, fields, Cheap, text, LIKE, 1)
            assert_raises(self, BadText, fields, Cheap, text, LIKE, None)
            assert_raises(self, BadText, fields, Within, text, Table([]))
        for value in values_of_all_kinds():
            if not isinstance(value, str):
                for kind, others in ((Same, ["a"]), (Along, ["a"]), (Between, [0, 1]), (Cheap, [LIKE, 1]), (Within, [Table([])])):
                    self.assertRaises(BadText, kind, value, *others)

    def test_wrong_numbers(self):
        for value in no_integers():
            assert_raises(self, BadNumber, {"value": value}, Between, "a", value, 1)
            assert_raises(self, BadNumber, {"value": value}, Between, "a", value, "later")
            assert_raises(self, BadNumber, {"value": value}, Between, "a", 1, value)
            assert_raises(self, BadNumber, {"value": value}, Cheap, "a", LIKE, value)

    def test_twisted_walks(self):
        turned = [Walk("eenn"), Walk("ennnn"), Walk("ssww"), Walk("en"), Walk("")]
        for one, other in itertools.product(turned, repeat=2):
            walks = {"one": one, "other": other}
            twist = one.place().twist(other.place())
            self.assertIs(Along("one", "other").is_kept(walks), twist == 0)
            self.assertTrue(Between("one other back one back other", twist, twist).is_kept(walks))


if __name__ == "__main__":
    unittest.main()
