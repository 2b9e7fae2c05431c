"""Promises 2, 60 and 61: books."""

import itertools
import random
import unittest

from areawalks.book import Book
from areawalks.errors import (
    BadName, BadText, Barred, NoPromise, NothingToUndo, NoWalk, Taken, TooMany, WalkError)
from areawalks.places import Place
from areawalks.prices import Prices
from areawalks.promises import Along, Between, Cheap, Same, Within
from areawalks.tables import Table
from areawalks.walks import Walk
from tests.samples import HUGE, assert_raises, values_of_all_kinds

NAMES = ["a", "z", "abcdefgh", "backs", "bac"]
WRONG_NAMES = ["", "abcdefghi", "A", "a1", "a ", " a", "a b", "\u00e9", "_", "a\n", "1"]


def no_names():
    """Values that are no names of walks, nor of promises."""
    return WRONG_NAMES + [value for value in values_of_all_kinds() if not isinstance(value, str)]


def filled():
    """The book of the document's example."""
    book = Book()
    book.put("a", Walk([("e", 2)]))
    book.put("b", Walk([("n", 3)]))
    book.keep("low", Between("a b back a back b", 0, 6))
    return book


def state_of(book):
    """All that can be seen of a book."""
    return {name: book[name].runs for name in book.names()}, book.promises(), book.undoable(), len(book)


class BookTest(unittest.TestCase):
    def assert_unchanged(self, book, error, fields, call, *arguments, **named):
        before = state_of(book)
        assert_raises(self, error, fields, call, *arguments, **named)
        self.assertEqual(state_of(book), before)

    def test_examples(self):
        book = filled()
        self.assertEqual(book.place("a b"), Place(2, 3, 6))
        self.assertEqual((book.promises(), book.undoable(), len(book), "low" in book), (("low",), 3, 2, False))
        self.assert_unchanged(book, Barred, {"words": ["low"]}, book.go_on, "a", Walk([("e", 1)]))
        self.assert_unchanged(book, Barred, {"words": ["low"]}, book.take, "b")

    def test_empty_book(self):
        book = Book()
        self.assertEqual((len(book), book.names(), book.promises(), book.undoable()), (0, (), (), 0))
        self.assertIs("a" in book, False)
        self.assert_unchanged(book, NothingToUndo, {}, book.undo)
        self.assert_unchanged(book, NoWalk, {"name": "a"}, book.place, "a")
        self.assertTrue(book == book)
        self.assertFalse(book == Book())
        self.assertRaises(TypeError, list, book)

    def test_names_of_arguments(self):
        book = Book()
        book.put(walk=Walk("e"), name="a")
        book.go_on(walk=Walk("n"), name="a")
        book.keep(promise=Same("a", "a"), name="same")
        self.assertEqual(book.place(text="2 a"), Place(2, 2, 3))
        self.assertEqual(book.attempt(action=len), 1)
        self.assertEqual(book.explore(action=len), 1)
        book.free(name="same")
        book.take(name="a")
        self.assertEqual((len(book), book.undoable()), (0, 5))

    def test_deeds_return_none(self):
        book = Book()
        for deed in (
                lambda: book.put("a", Walk("e")), lambda: book.go_on("a", Walk("n")),
                lambda: book.keep("p", Same("a", "a")), lambda: book.free("p"), lambda: book.take("a"), book.undo):
            self.assertIsNone(deed())

    def test_put(self):
        book = Book()
        for name in NAMES:
            walk = Walk("en")
            book.put(name, walk)
            self.assertEqual(book[name], walk)
            self.assertIs(name in book, True)
        self.assertEqual(book.names(), tuple(sorted(NAMES)))
        book.put("a", Walk("ws"))
        self.assertEqual((book["a"], len(book)), (Walk("ws"), len(NAMES)))

    def test_go_on(self):
        book = filled()
        book.go_on("b", Walk("nws"))
        self.assertEqual(book["b"], Walk("nnnnws"))
        book.put("c", Walk(""))
        book.go_on("c", book["b"])
        self.assertEqual(book["c"], book["b"])
        self.assertEqual(book["a"], Walk("ee"))

    def test_take(self):
        book = filled()
        book.put("c", Walk("e"))
        book.take("c")
        self.assertEqual((book.names(), "c" in book), (("a", "b"), False))
        self.assert_unchanged(book, NoWalk, {"name": "c"}, book.take, "c")
        book.free("low")
        book.take("a")
        self.assertEqual(book.names(), ("b",))

    def test_walks_and_promises_have_names_of_their_own(self):
        book = Book()
        book.put("a", Walk("e"))
        book.keep("a", Same("a", "a"))
        book.keep("back", Along("a", "2 a"))
        self.assertEqual((book.names(), book.promises()), (("a",), ("a", "back")))
        book.free("a")
        self.assertEqual((book.names(), book.promises()), (("a",), ("back",)))
        book.free("back")
        book.take("a")
        self.assertEqual((book.names(), book.promises()), ((), ()))

    def test_walks_of_many_runs(self):
        book = Book()
        stair = Walk("en" * 5000)
        book.put("a", stair)
        book.keep("far", Between("a", 0, 10 ** 9))
        self.assert_unchanged(book, TooMany, {"most": 10000}, book.go_on, "a", Walk("e"))
        self.assert_unchanged(book, TooMany, {"most": 10000}, book.go_on, "a", stair)
        # The walk behind may join the last run.
        book.go_on("a", Walk([("n", HUGE // 10 ** 115)]))
        self.assertEqual((len(book["a"].runs), book.place("a").x), (10000, 5000))
        book.put("b", Walk("en" * 4999))
        for letter in "en":
            book.go_on("b", Walk(letter))
        self.assertEqual(book["b"], stair)
        self.assert_unchanged(book, TooMany, {"most": 10000}, book.go_on, "b", Walk("e"))

    def test_too_many_runs_before_barred(self):
        book = Book()
        book.put("a", Walk("en" * 5000))
        book.keep("same", Same("a", "a"))
        book.keep("just", Between("a", *[book.place("a").area] * 2))
        self.assert_unchanged(book, TooMany, {"most": 10000}, book.go_on, "a", Walk("e"))
        self.assert_unchanged(book, Barred, {"words": ["just"]}, book.go_on, "a", Walk("n"))

    def test_place(self):
        book = filled()
        self.assertEqual(book.place("2 ( a b )"), Place(4, 6, 18))
        for text, number in (("", 0), ("a ( b", 3), ("a  b", 1), ("c )", 1)):
            assert_raises(self, BadText, {"number": number}, book.place, text)
        assert_raises(self, NoWalk, {"name": "c"}, book.place, "a 0 c d")
        for value in no_names():
            if not isinstance(value, str):
                self.assertRaises(BadText, book.place, value)

    def test_wrong_names(self):
        book = filled()
        walk = Walk("n")
        for value in [*no_names(), "back", "c", "low"]:
            self.assertIs(value in book, False)
            self.assert_unchanged(book, NoWalk, {"name": value}, book.__getitem__, value)
            self.assert_unchanged(book, NoWalk, {"name": value}, book.go_on, value, walk)
            self.assert_unchanged(book, NoWalk, {"name": value}, book.go_on, value, "later")
            self.assert_unchanged(book, NoWalk, {"name": value}, book.take, value)
        for value in [*no_names(), "back"]:
            self.assert_unchanged(book, BadName, {"value": value}, book.put, value, walk)
            self.assert_unchanged(book, BadName, {"value": value}, book.put, value, "later")
        for value in no_names():
            self.assert_unchanged(book, BadName, {"value": value}, book.keep, value, Same("a", "a"))
            self.assert_unchanged(book, BadName, {"value": value}, book.keep, value, "later")
        for value in [*no_names(), "a", "back", "lo"]:
            self.assert_unchanged(book, NoPromise, {"name": value}, book.free, value)


class KeepingTest(unittest.TestCase):
    assert_unchanged = BookTest.assert_unchanged

    def test_keep(self):
        book = filled()
        for name, promise in (
                ("same", Same("a b", "a b back a back b b a")), ("along", Along("a", "-7 a")), ("cheap", Cheap("a b", Prices(1, 1, 1, 1), 5)),
                ("within", Within("a", Table([Place(1, 0, 0)]))), ("between", Between("a b", 6, 6))):
            book.keep(name, promise)
        self.assertEqual(book.promises(), ("along", "between", "cheap", "low", "same", "within"))
        self.assertEqual(book.undoable(), 8)

    def test_promises_that_are_not_kept(self):
        book = filled()
        for promise in (
                Same("a", "b"), Along("a", "b"), Between("a b", 7, 9), Cheap("a b", Prices(1, 1, 1, 1), 4),
                Within("b", Table([Place(1, 0, 0)]))):
            self.assert_unchanged(book, Barred, {"words": ["new"]}, book.keep, "new", promise)
        for name, promise in (("c", Same("a c", "d")), ("d", Between("0 d c", 0, 0)), ("low", Within("low", Table([])))):
            self.assert_unchanged(book, NoWalk, {"name": name}, book.keep, "new", promise)

    def test_errors_of_keep_in_their_order(self):
        book = filled()
        self.assert_unchanged(book, BadName, {"value": "A"}, book.keep, "A", Same("c", "a"))
        self.assert_unchanged(book, Taken, {"name": "low"}, book.keep, "low", Same("c", "a"))
        self.assert_unchanged(book, Taken, {"name": "low"}, book.keep, "low", Same("a", "b"))
        self.assert_unchanged(book, NoWalk, {"name": "c"}, book.keep, "new", Same("b c", "a"))
        book.free("low")
        book.keep("low", Same("a", "a"))

    def test_kept_just_so_and_missed_by_one(self):
        book = Book()
        book.put("a", Walk("ee"))
        book.put("b", Walk("nnn"))
        book.keep("area", Between("a b", 6, 9))
        book.keep("price", Cheap("a b", Prices(1, 1, 1, 1), 6))
        self.assert_unchanged(book, Barred, {"words": ["area"]}, book.put, "b", Walk("nn"))
        book.go_on("a", Walk("e"))
        self.assertEqual(book.place("a b").area, 9)
        self.assert_unchanged(book, Barred, {"words": ["area", "price"]}, book.go_on, "a", Walk("e"))
        self.assert_unchanged(book, Barred, {"words": ["area", "price"]}, book.go_on, "b", Walk("n"))

    def test_several_promises(self):
        book = Book()
        for name in "abc":
            book.put(name, Walk("en"))
        for name, promise in (
                ("zero", Same("a", "b")), ("y", Along("b", "c")), ("m", Between("a c", 1, 9)), ("b", Same("c", "c"))):
            book.keep(name, promise)
        self.assert_unchanged(book, Barred, {"words": ["y", "zero"]}, book.put, "b", Walk("n"))
        self.assert_unchanged(book, Barred, {"words": ["m", "zero"]}, book.put, "a", Walk("wwwwwnnn"))
        self.assert_unchanged(book, Barred, {"words": ["m", "zero"]}, book.take, "a")
        self.assert_unchanged(book, Barred, {"words": ["y", "zero"]}, book.take, "b")
        self.assert_unchanged(book, Barred, {"words": ["b", "m", "y"]}, book.take, "c")
        book.free("zero")
        book.put("b", ~Walk("en"))
        self.assert_unchanged(book, Barred, {"words": ["m"]}, book.take, "a")

    def test_words_are_new(self):
        book = filled()
        for _ in range(2):
            with self.assertRaises(Barred) as caught:
                book.take("a")
            self.assertEqual(caught.exception.words, ["low"])
            caught.exception.words.append("more")

    def test_promises_about_walks_done_no_times(self):
        book = Book()
        book.put("a", Walk("e"))
        book.keep("none", Between("0 a", 0, 0))
        book.put("a", Walk("n"))
        self.assert_unchanged(book, Barred, {"words": ["none"]}, book.take, "a")

    def test_many_walks_and_promises(self):
        book = Book()
        names = [chr(97 + at) * 3 for at in range(12)]
        for name in names:
            book.put(name, Walk([("e", HUGE), ("n", HUGE)]))
        for one, other in zip(names, names[1:] + names[:1]):
            book.keep(one, Along(one, other))
        self.assertEqual((len(book), len(book.promises())), (12, 12))
        for at, name in enumerate(names):
            words = sorted([name, names[at - 1]])
            self.assert_unchanged(book, Barred, {"words": words}, book.go_on, name, Walk("e"))
            book.go_on(name, book[name])


class UndoTest(unittest.TestCase):
    def test_all_deeds_up_to_the_beginning(self):
        book = Book()
        deeds = [
            lambda: book.put("a", Walk("ee")), lambda: book.put("a", Walk("ee")), lambda: book.go_on("a", Walk("")),
            lambda: book.keep("p", Between("a", 0, 0)), lambda: book.put("b", Walk("n")), lambda: book.go_on("a", Walk("e")),
            lambda: book.free("p"), lambda: book.take("a"), lambda: book.keep("q", Same("b", "b")), lambda: book.put("a", Walk("w"))]
        states = []
        for deed in deeds:
            states.append(state_of(book))
            deed()
        self.assertEqual(book.undoable(), len(deeds))
        for before in states[::-1]:
            self.assertIsNone(book.undo())
            self.assertEqual(state_of(book), before)
        assert_raises(self, NothingToUndo, {}, book.undo)
        self.assertEqual(state_of(book), states[0])

    def test_promises_are_taken_back_with_what_they_bar(self):
        book = filled()
        book.undo()
        book.take("b")
        self.assertEqual((book.names(), book.promises(), book.undoable()), (("a",), (), 3))
        book.undo()
        book.undo()
        self.assertEqual((book.names(), book.undoable()), (("a",), 1))
        book.put("b", Walk("s"))
        self.assertEqual((book["b"], book.undoable()), (Walk("s"), 2))

    def test_free_is_taken_back(self):
        book = filled()
        book.free("low")
        book.go_on("b", Walk("n"))
        book.undo()
        book.undo()
        self.assertEqual(book.promises(), ("low",))
        assert_raises(self, Barred, {"words": ["low"]}, book.go_on, "b", Walk("n"))

    def test_errors_are_no_deeds(self):
        book = filled()
        for call in (lambda: book.take("a"), lambda: book.put("A", Walk("")), lambda: book.free("x"), lambda: book["x"]):
            self.assertRaises(WalkError, call)
        self.assertEqual(book.undoable(), 3)


class AttemptTest(unittest.TestCase):
    def assert_failing(self, book, call, action, error):
        """The action's own error leaves the call, and the book is as before."""
        before = state_of(book)
        with self.assertRaises(error.__class__) as caught:
            call(action)
        self.assertIs(caught.exception, error)
        self.assertEqual(state_of(book), before)

    def test_attempts_that_end_well(self):
        book = filled()

        def act(told):
            self.assertIs(told, book)
            told.put("c", Walk("e"))
            told.go_on("c", Walk("n"))
            return "done"

        self.assertEqual(book.attempt(act), "done")
        self.assertEqual((book["c"], book.undoable()), (Walk("en"), 5))
        book.undo()
        self.assertEqual((book["c"], book.undoable()), (Walk("e"), 4))
        book.undo()
        self.assertEqual((book.names(), book.undoable()), (("a", "b"), 3))

    def test_explorations(self):
        book = filled()
        before = state_of(book)

        def act(told):
            self.assertIs(told, book)
            told.free("low")
            told.take("a")
            told.undo()
            told.put("d", Walk("e"))
            return told.names(), told.undoable()

        self.assertEqual(book.explore(act), (("a", "b", "d"), 5))
        self.assertEqual(state_of(book), before)
        assert_raises(self, Barred, {"words": ["low"]}, book.take, "a")

    def test_results(self):
        for result in (None, False, 0, "", (), [], {}, Place(0, 0, 0), Walk(""), Book(), 5):
            book = filled()
            self.assertIs(book.attempt(lambda told: told.put("c", Walk("e")) or result), result)
            self.assertEqual(book.undoable(), 4)
            self.assertIs(book.explore(lambda told: told.put("c", Walk("n")) or result), result)
            self.assertEqual((book["c"], book.undoable()), (Walk("e"), 4))

    def test_errors_of_any_class(self):
        class Own(BaseException):
            pass

        errors = [
            ValueError("x"), NoWalk("x"), Barred([]), KeyError(1), Own(), KeyboardInterrupt(), SystemExit(3), GeneratorExit(),
            StopIteration(), AssertionError(), RecursionError(), MemoryError()]
        for error in errors:
            book = filled()

            def act(told):
                told.free("low")
                told.put("a", Walk("wnes"))
                told.take("b")
                raise error

            self.assert_failing(book, book.attempt, act, error)
            self.assert_failing(book, book.explore, act, error)
            self.assertEqual(book.place("a b"), Place(2, 3, 6))

    def test_errors_of_the_book_leave_the_action(self):
        book = filled()
        before = state_of(book)
        for call in (book.attempt, book.explore):
            assert_raises(self, NoWalk, {"name": "x"}, call, lambda told: (told.put("c", Walk("e")), told["x"]))
            assert_raises(self, Barred, {"words": ["low"]}, call, lambda told: (told.put("c", Walk("e")), told.take("a")))
            self.assertEqual(state_of(book), before)

    def test_errors_that_stay_in_the_action(self):
        book = filled()

        def act(told):
            told.put("c", Walk("e"))
            try:
                told.take("a")
            except Barred:
                told.put("d", Walk("n"))

        self.assertIsNone(book.attempt(act))
        self.assertEqual((book.names(), book.undoable()), (("a", "b", "c", "d"), 5))

    def test_what_is_undone_within(self):
        book = filled()
        before = state_of(book)

        def act(told):
            while told.undoable() > 0:
                told.undo()
            told.put("z", Walk("s"))
            assert_raises(self, NothingToUndo, {}, lambda: (told.undo(), told.undo()))
            told.put("y", Walk("s"))

        book.explore(act)
        self.assertEqual(state_of(book), before)
        error = ValueError()
        self.assert_failing(book, book.attempt, lambda told: (act(told), self.fail_with(error)), error)
        book.attempt(act)
        self.assertEqual((book.names(), book.promises(), book.undoable()), (("y",), (), 1))

    def fail_with(self, error):
        raise error

    def test_attempts_within_attempts(self):
        book = Book()
        error = ValueError()

        def inner(told):
            told.put("b", Walk("n"))
            raise error

        def outer(told):
            told.put("a", Walk("e"))
            with self.assertRaises(ValueError):
                told.attempt(inner)
            self.assertEqual((told.names(), told.undoable()), (("a",), 1))
            told.attempt(lambda again: again.put("c", Walk("w")))
            self.assertEqual(told.explore(lambda again: (again.undo(), again.names())[1]), ("a",))
            self.assertEqual(told.explore(lambda again: again.explore(lambda last: last.take("a")) or again.names()), ("a", "c"))
            return told.undoable()

        self.assertEqual(book.attempt(outer), 2)
        self.assertEqual((book.names(), book.undoable()), (("a", "c"), 2))
        self.assertEqual(book.explore(lambda told: told.attempt(lambda again: again.take("a")) or told.names()), ("c",))
        self.assert_failing(book, book.attempt, lambda told: told.attempt(inner), error)
        self.assert_failing(book, book.explore, lambda told: (told.attempt(lambda again: again.take("a")), inner(told)), error)
        self.assertEqual((book.names(), book.undoable()), (("a", "c"), 2))


class ModelTest(unittest.TestCase):
    """Chance deeds, against lists of what must be there."""

    def act(self, chance, book, name):
        walk = Walk(chance.choice(("", "e", "n", "en", "wsse", "nnww")))
        choice = chance.randrange(7)
        if choice < 2:
            book.put(name, walk)
        elif choice == 2:
            book.go_on(name, walk)
        elif choice == 3:
            book.take(name)
        elif choice == 4:
            text = f"{name} {chance.choice('abc')}"
            book.keep(chance.choice("pqr"), chance.choice((
                Between(text, -3, 5), Along(name, text), Cheap(text, Prices(1, 2, 1, 3), 9), Same(text, text))))
        elif choice == 5:
            book.free(chance.choice("pqr"))
        else:
            book.undo()

    def test_chance_deeds(self):
        chance = random.Random(60)
        for _ in range(60):
            book = Book()
            states = [state_of(book)]
            for _ in range(60):
                before, known = state_of(book), book.undoable()
                try:
                    self.act(chance, book, chance.choice("abc"))
                except WalkError:
                    self.assertEqual(state_of(book), before)
                    continue
                if book.undoable() > known:
                    states.append(state_of(book))
                else:
                    states.pop()
                self.assertEqual(state_of(book), states[-1])
                self.assertEqual(book.undoable(), len(states) - 1)

    def test_promises_are_always_kept(self):
        chance = random.Random(61)
        book = Book()
        for name in "abc":
            book.put(name, Walk("en"))
        promises = {"p": Between("a b back a", -2, 4), "q": Cheap("a c", Prices(1, 1, 1, 1), 7), "r": Along("a", "b")}
        for name, promise in promises.items():
            book.keep(name, promise)
        done = barred = 0
        for name, text in itertools.product("abc", [chance.choices("enws", k=chance.randint(0, 3)) for _ in range(80)]):
            walk = book[name] * Walk("".join(text))
            walks = {**{other: book[other] for other in "abc"}, name: walk}
            words = [word for word, promise in sorted(promises.items()) if not promise.is_kept(walks)]
            if words:
                assert_raises(self, Barred, {"words": words}, book.go_on, name, Walk("".join(text)))
                barred += 1
            else:
                book.go_on(name, Walk("".join(text)))
                done += 1
            self.assertEqual(book[name], walk if not words else book[name])
        self.assertGreater(min(done, barred), 20)


if __name__ == "__main__":
    unittest.main()
