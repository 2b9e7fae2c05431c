"""Promises 2, 58 and 61: formulas."""

import itertools
import random
import unittest

from areawalks.errors import BadText, NoWalk
from areawalks.formulas import Formula
from areawalks.places import Place, home_place
from areawalks.walks import Walk
from tests.samples import HUGE, assert_raises, figures_of, values_of_all_kinds

WALKS = {"a": Walk([("e", 2)]), "b": Walk([("n", 3)]), "abcdefgh": Walk("enws"), "backs": Walk("wwn"), "x": Walk("")}
WORDS = ["a", "b", "back", "2", "-1", "0", "(", ")", "", "A"]


def slow_fault(words):
    """The index of the first word that can not stand, by the words that may be next; None if there is none."""
    deep, due = 0, True
    for number, word in enumerate(words):
        if word in ("back", "2", "-1", "0"):
            due = True
        elif word in ("a", "b"):
            due = False
        elif word == "(" and deep < 20:
            deep, due = deep + 1, True
        elif word == ")" and deep > 0 and not due:
            deep = deep - 1
        else:
            return number
    return len(words) if due or deep else None


def written_out(walk, times):
    """A walk so many times, walked back for numbers below 0."""
    return walk.repeated(times) if times >= 0 else (~walk).repeated(-times)


class FormulaTest(unittest.TestCase):
    def assert_place(self, text, place):
        self.assertEqual(figures_of(Formula(text).place(WALKS)), figures_of(place), text)

    def test_examples(self):
        self.assert_place("a b back a back b", Place(0, 0, 6))
        self.assert_place("2 ( a b )", Place(4, 6, 18))
        self.assertEqual(Formula("b -1 a").names(), ("a", "b"))
        assert_raises(self, BadText, {"number": 3}, Formula, "a ( b")
        assert_raises(self, BadText, {"number": 0}, Formula, "-0 a")

    def test_attributes_and_names(self):
        formula = Formula(text="b 0 ( a abcdefgh ) b a")
        self.assertEqual(formula.text, "b 0 ( a abcdefgh ) b a")
        self.assertEqual(formula.names(), ("a", "abcdefgh", "b"))
        self.assertEqual(formula.place(walks=WALKS), Place(2, 6, 0))
        self.assertEqual(Formula("backs back backs").names(), ("backs",))

    def test_equal_by_value(self):
        for one, other in itertools.product(("a", "1 a", "a b", "b a", "( a b )", "back a", "-1 a"), repeat=2):
            self.assertIs(Formula(one) == Formula(other), one == other)
            self.assertIs(Formula(one) != Formula(other), one != other)
        for other in ("a", None, ("a",), Walk("ee")):
            self.assertFalse(Formula("a") == other)

    def test_places(self):
        a, b = WALKS["a"], WALKS["b"]
        for text, walk in (
                ("a", a), ("x", Walk("")), ("a a", a * a), ("a b", a * b), ("b a", b * a), ("( a )", a),
                ("( ( a ) ( b a ) )", a * b * a), ("back ( a b )", ~(a * b)), ("back back a", a), ("3 a", a * a * a),
                ("0 a b", b), ("0 ( a b )", Walk("")), ("-1 a", ~a), ("-2 ( a b )", ~(a * b * a * b)),
                ("2 back a", ~a * ~a), ("back 2 a", ~a * ~a), ("2 3 ( a b )", (a * b).repeated(6)),
                ("-2 -3 ( a b )", (a * b).repeated(6)), ("2 0 a b", b), ("2 a b", a * a * b),
                ("2 ( a back ( b 3 a ) ) b", (a * ~(b * a.repeated(3))).repeated(2) * b),
                ("backs abcdefgh", WALKS["backs"] * WALKS["abcdefgh"])):
            self.assert_place(text, walk.place())

    def test_prefixes(self):
        both = WALKS["a"] * WALKS["b"]
        for times in range(-12, 13):
            self.assert_place(f"{times} ( a b )", written_out(both, times).place())
            for more in (-2, 0, 1, 3):
                self.assert_place(f"{more} {times} ( a b )", written_out(written_out(both, times), more).place())
        long = "9" * 30
        self.assert_place(f"{long} ( a b )", both.place().power(int(long)))
        self.assert_place(f"-{long} ( a b )", both.place().power(-int(long)))
        self.assert_place(f"{long} -{long} ( a b )", both.place().power(-int(long) ** 2))
        self.assert_place(f"{long} " * 20 + "0 a b", WALKS["b"].place())

    def test_great_walks(self):
        walks = {"p": Walk([("e", HUGE), ("n", HUGE)]), "q": Walk([("s", HUGE), ("w", 1)] * 5000)}
        p, q = walks["p"].place(), walks["q"].place()
        for text, place in (("p q", p * q), ("back ( q p )", ~(q * p)), (f"{HUGE // 10 ** 90} p back q", p.power(HUGE // 10 ** 90) * ~q)):
            self.assertEqual(figures_of(Formula(text).place(walks)), figures_of(place))

    def test_words(self):
        for text in ("a b", "back a", "( a )", "0 a", "10 a", "-10 a", "12345 b", "backs", "abcdefgh", "( 2 ( a ) )"):
            self.assertEqual(Formula(text).text, text)
        for word in (
                "abcdefghi", "A", "aB", "a1", "a-", "a_b", "\u00e9", "\u0430", "00", "01", "-0", "-01", "-", "--1", "+1", "1.5",
                "1a", "9" * 31, "-" + "9" * 31, "\u0661", "\u00b2", "1_0", "((", "()", "(a)", "\t", "a\n", "\n", "BACK", "*"):
            assert_raises(self, BadText, {"number": 0}, Formula, word)
            assert_raises(self, BadText, {"number": 0}, Formula, word + " a")
            assert_raises(self, BadText, {"number": 2}, Formula, "b 2 " + word + " a")
            assert_raises(self, BadText, {"number": 1}, Formula, "( " + word + " )")
        Formula("9" * 30 + " -" + "9" * 30 + " a")

    def test_blanks(self):
        for text, number in ((" ", 0), (" a", 0), ("a ", 1), ("a  b", 1), ("a b  ", 2), ("  ", 0), ("2  a", 1), ("( a ) ", 3)):
            assert_raises(self, BadText, {"number": number}, Formula, text)

    def test_texts_that_end_too_early(self):
        for text in ("", "back", "2", "a back", "a 2 3", "(", "( a", "( a ( b )", "a b (", "2 ( a back", "back ("):
            number = len(text.split(" ")) if text else 0
            assert_raises(self, BadText, {"number": number}, Formula, text)

    def test_brackets(self):
        for text, number in ((")", 0), ("a )", 1), ("( )", 1), ("( a ) )", 3), ("( 2 )", 2), ("( back )", 2), ("a ( ) b", 2)):
            assert_raises(self, BadText, {"number": number}, Formula, text)
        deep = "2 ( " * 20 + "a" + " )" * 20
        self.assert_place(deep, WALKS["a"].place().power(2 ** 20))
        self.assert_place(deep + " " + deep, WALKS["a"].place().power(2 ** 21))
        assert_raises(self, BadText, {"number": 20}, Formula, "( " * 21 + "a" + " )" * 21)
        assert_raises(self, BadText, {"number": 20}, Formula, "( " * 20 + "(")
        # Brackets that are closed do not count.
        Formula(" ".join(["( a )"] * 30))
        assert_raises(self, BadText, {"number": 83}, Formula, deep[:-2] + " ( b ) ( c" + " (" * 19)
        assert_raises(self, BadText, {"number": 83}, Formula, deep[:-2] + " ( b ) ( c" + " (" * 18)

    def test_all_short_texts(self):
        for count in range(5):
            for words in itertools.product(WORDS, repeat=count):
                # A text of one empty word alone is that of no words.
                if words != ("",):
                    number = slow_fault(words)
                    if number is None:
                        self.assertEqual(Formula(" ".join(words)).names(), tuple(sorted({"a", "b"} & set(words))))
                    else:
                        assert_raises(self, BadText, {"number": number}, Formula, " ".join(words))

    def test_chance_texts(self):
        chance = random.Random(58)
        for _ in range(2000):
            words = chance.choices(WORDS[:8], weights=(6, 6, 2, 2, 1, 1, 4, 4), k=chance.randint(5, 100))
            number = slow_fault(words)
            if number is None:
                Formula(" ".join(words))
            else:
                assert_raises(self, BadText, {"number": number}, Formula, " ".join(words))

    def test_a_hundred_words(self):
        text = " ".join(["a b back a back b"] * 16)
        self.assert_place(text, Place(0, 0, 96))
        self.assert_place("( " * 16 + " ".join(["a b"] * 34) + " )" * 16, Place(68, 102, 3 * 34 * 35))

    def test_missing_walks(self):
        for text, name in (
                ("c", "c"), ("a c", "c"), ("d c", "d"), ("0 c", "c"), ("0 ( a c ) d", "c"), ("0 0 ( b ( a d ) ) c", "d"),
                ("back c a", "c"), ("a backs abcdefg", "abcdefg")):
            assert_raises(self, NoWalk, {"name": name}, Formula(text).place, WALKS)
        assert_raises(self, NoWalk, {"name": "b"}, Formula("b a").place, {})
        self.assertEqual(Formula("a").place({"a": Walk("n"), "zzz": Walk("e"), "back": Walk("e")}), Place(0, 1, 0))

    def test_walks_are_looked_at_each_time(self):
        formula = Formula("a back b")
        walks = {"b": Walk("e"), "a": Walk("e")}
        self.assertEqual(formula.place(walks), home_place())
        walks["a"] = Walk("n")
        self.assertEqual(formula.place(walks), Place(-1, 1, 0))
        self.assertEqual(walks, {"b": Walk("e"), "a": Walk("n")})

    def test_wrong_values(self):
        for value in values_of_all_kinds():
            if not isinstance(value, str):
                assert_raises(self, BadText, {"number": 0}, Formula, value)
        for value in ("", "5"):
            assert_raises(self, BadText, {"number": len(value)}, Formula, value)


if __name__ == "__main__":
    unittest.main()
