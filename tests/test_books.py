"""Books: names, states, kinds by name, equality, and what is no book (points 1, 2 and 5)."""

import unittest

from helper import NOT_NAMES, nested

from partstold.books import Book, Kind
from partstold.errors import BadBook, UnknownKind

STEP = Kind(["open", "done"], [], [], "open")
TASK = Kind([], ["step", "task"], [("late", [(1, None, ["stuck"])])], "fine")


def of_states(names):
    """Returns a kind that has these hand states, the first of them as its last state."""
    return Kind(names, [], [], names[0])


class Properties(unittest.TestCase):
    def test_names_and_states(self):
        book = Book({"task": TASK, "step": STEP})
        self.assertEqual(book.names, ("step", "task"))
        self.assertEqual(book.states, ("done", "fine", "late", "open", "stuck"))
        self.assertIs(type(book.names), tuple)
        self.assertIs(type(book.states), tuple)

    def test_states_come_from_everywhere(self):
        kind = Kind(["h"], ["k"], [("c", [(0, 0, ["a"]), (0, 1, ["b"])]), ("d", [])], "l")
        self.assertEqual(Book({"k": kind}).states, ("a", "b", "c", "d", "h", "l"))

    def test_one_to_four_kinds(self):
        for many in [1, 2, 3, 4]:
            names = ["d", "b", "c", "a"][:many]
            self.assertEqual(Book({name: STEP for name in names}).names, tuple(sorted(names)))

    def test_eight_states(self):
        self.assertEqual(Book({"a": of_states(list("hgfedcba"))}).states, tuple("abcdefgh"))
        book = Book({"a": of_states(list("abcd")), "b": of_states(list("defgh"))})
        self.assertEqual(book.states, tuple("abcdefgh"))

    def test_kind_named(self):
        book = Book({"task": TASK, "step": STEP})
        self.assertTrue(book.kind_named("step") == STEP)
        self.assertTrue(book.kind_named(name="task") == TASK)
        self.assertIsInstance(book.kind_named("task"), Kind)

    def test_kind_named_raises_for_any_object(self):
        book = Book(kinds={"task": TASK, "step": STEP})
        for thing in [*NOT_NAMES, "other", "tas", "tasks", "open", STEP, nested(40, "task")]:
            with self.subTest(thing):
                with self.assertRaises(UnknownKind) as caught:
                    book.kind_named(thing)
                self.assertIs(caught.exception.kind, thing)

    def test_immutable(self):
        book = Book({"step": STEP})
        for name in ["names", "states"]:
            with self.subTest(name):
                with self.assertRaises(AttributeError):
                    setattr(book, name, ())

    def test_what_is_passed_is_copied_and_not_modified(self):
        kinds = {"task": TASK, "step": STEP}
        book = Book(kinds)
        self.assertEqual(list(kinds), ["task", "step"])
        kinds["more"] = STEP
        del kinds["task"]
        self.assertEqual(book.names, ("step", "task"))
        self.assertTrue(book.kind_named("task") == TASK)
        self.assertRaises(UnknownKind, book.kind_named, "more")
        self.assertTrue(book == Book({"step": STEP, "task": TASK}))


class Equality(unittest.TestCase):
    def test_equal(self):
        one = Book({"task": TASK, "step": STEP})
        other = Book({"step": Kind(("done", "open"), (), (), "open"), "task": TASK})
        self.assertTrue(one == other)
        self.assertFalse(one != other)

    def test_unequal(self):
        one = Book({"step": STEP, "task": TASK})
        others = [
            Book({"step": STEP}),
            Book({"step": STEP, "task": TASK, "other": STEP}),
            Book({"step": STEP, "task": STEP}),
            Book({"step": STEP, "other": STEP}),
            Book({"step": Kind(["open", "done"], [], [], "done"), "task": TASK}),
            Book({"step": STEP, "task": Kind([], ["step", "task"], [("late", [(1, None, ["stuck"])])], "open")}),
        ]
        for other in others:
            self.assertFalse(one == other)
            self.assertTrue(one != other)
            self.assertFalse(other == one)
        self.assertTrue(Book({"a": STEP}) != Book({"b": STEP}))

    def test_values_of_other_kinds(self):
        book = Book({"step": STEP})
        for thing in [None, True, 0, "step", (), {"step": STEP}, STEP, book.text(), object(), Book]:
            self.assertFalse(book == thing)
            self.assertTrue(book != thing)
            self.assertFalse(thing == book)


class Wrong(unittest.TestCase):
    def wrong(self, place, kinds):
        with self.subTest(kinds):
            with self.assertRaises(BadBook) as caught:
                Book(kinds)
            self.assertEqual(caught.exception.place, place)

    def test_not_a_dict_of_kinds(self):
        for thing in [*NOT_NAMES, "step", [], ["step"], [("step", STEP)], (("step", STEP),), {"step"}, STEP,
                      Book({"step": STEP}), Book, nested(40, STEP)]:
            self.wrong("kinds", thing)
        self.wrong("kinds", {})
        for thing in [None, True, 0, "step", [], {}, (("open",), (), (), "open"), Kind, object(), Book({"a": STEP})]:
            self.wrong("kinds", {"step": thing})
            self.wrong("kinds", {"step": STEP, "task": thing})

    def test_not_under_names(self):
        for thing in ["", "abcdefghi", "A", "a b", "a1", "\u00e9", 0, 1, True, False, None, b"a", ("a",), 1.5]:
            self.wrong("kinds", {thing: STEP})
            self.wrong("kinds", {"a": STEP, thing: STEP})

    def test_five_kinds(self):
        self.wrong("kinds", {name: STEP for name in "abcde"})

    def test_parts_of_no_kind(self):
        self.wrong("parts", {"task": TASK})
        self.wrong("parts", {"task": TASK, "steps": STEP})
        self.wrong("parts", {"a": STEP, "b": Kind(["x"], ["a", "b", "c"], [], "x")})
        self.wrong("parts", {"a": Kind(["x"], ["open"], [], "open")})
        self.wrong("parts", {"a": Kind([], list("abcde"), [], "x"), "b": STEP, "c": STEP, "d": STEP})

    def test_nine_states(self):
        self.wrong("states", {"a": of_states(list("abcdefghi"))})
        self.wrong("states", {"a": of_states(list("abcd")), "b": of_states(list("efghi"))})
        self.wrong("states", {"a": Kind(list("abcdefgh"), [], [], "i")})
        self.wrong("states", {"a": Kind(list("abcdefgh"), [], [("i", [])], "a")})
        self.wrong("states", {"a": Kind(list("abcdefgh"), [], [("a", [(0, 0, ["a", "i"])])], "a")})

    def test_the_first_wrong_place_counts(self):
        nine = of_states(list("abcdefghi"))
        apart = Kind(["x"], ["none"], [], "x")
        self.wrong("kinds", {"a": nine, "b": apart, "c": None})
        self.wrong("kinds", {"a": nine, "b": apart, "C": STEP})
        self.wrong("kinds", {"a": nine, "b": apart, "c": STEP, "d": STEP, "e": STEP})
        self.wrong("parts", {"a": nine, "b": apart})


if __name__ == "__main__":
    unittest.main()
