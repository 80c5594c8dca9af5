"""Which states are alike for wanted states above them (point 16)."""

import itertools
import unittest

import brute
from helper import NOT_NAMES, Agreeing, barren, full, is_of_tuples, ladder, nested, shared_size

from partstold.books import Book, Kind
from partstold.errors import BadState, UnknownKind
from partstold.everywhere import alike, parting
from partstold.known import levels, lights, votes, work
from partstold.possible import least, possible
from partstold.surroundings import table_of

UNKNOWN = [*NOT_NAMES, "steps", "open", nested(40, "step"), ("step",), Agreeing(), work()]
NO_STATES = [*NOT_NAMES, "never", "step", nested(40, "open"), ("open",), Agreeing()]


def wanted_lists(states):
    """Yields all lists of wanted states, none and all of them among these."""
    for many in range(len(states) + 1):
        for wanted in itertools.combinations(states, many):
            yield list(wanted)


class Alike(unittest.TestCase):
    def test_example(self):
        self.assertEqual(alike(work(), "step", "phase", ["alert"]), [("done", "dropped", "open"), ("stuck",)])

    def test_other_wanted_states(self):
        self.assertEqual(alike(work(), "step", "phase", ["done"]), [("done", "dropped"), ("open", "stuck")])
        self.assertEqual(alike(work(), "step", "phase", ["open"]), [("done", "dropped"), ("open",), ("stuck",)])
        self.assertEqual(alike(work(), "step", "task", ["dropped"]), [("done", "open", "stuck"), ("dropped",)])
        self.assertEqual(alike(lights(), "unit", "unit", ["red"]), [("amber", "green"), ("red",)])
        self.assertEqual(alike(lights(), "unit", "unit", ["red", "green"]), [("amber",), ("green",), ("red",)])

    def test_none_and_all(self):
        for book in [work(), lights(), levels(4), votes(2), barren()]:
            for hole, top in itertools.product(book.names, repeat=2):
                states = possible(book, hole)
                for wanted in [[], list(book.states), list(book.states) * 2]:
                    self.assertEqual(alike(book, hole, top, wanted), [states] if states else [])

    def test_the_hole_alone_parts_states(self):
        self.assertEqual(alike(work(), "step", "step", ["open", "done"]), [("done", "open"), ("dropped", "stuck")])
        self.assertEqual(alike(work(), "phase", "phase", ["alert"]), [("alert",), ("done", "open")])

    def test_no_surrounding(self):
        self.assertEqual(alike(work(), "phase", "task", ["open"]), [("alert", "done", "open")])
        self.assertEqual(alike(barren(), "kc", "ka", ["x"]), [("x", "y", "z")])

    def test_kinds_without_branches(self):
        self.assertEqual(alike(barren(), "ka", "kc", ["x"]), [])
        self.assertEqual(alike(barren(), "ka", "ka", []), [])

    def test_groups_that_lie_between_each_other(self):
        kind = Kind(["a", "b", "c", "d"], ["k"], [("w", [(1, None, ["a", "c"])])], "n")
        book = Book({"k": kind, "top": Kind([], ["k"], [("w", [(1, None, ["a", "c"])])], "n")})
        self.assertEqual(alike(book, "k", "top", ["w"]), [("a", "c"), ("b", "d", "n", "w")])

    def test_states_that_the_top_cannot_have_may_be_wanted(self):
        self.assertEqual(alike(work(), "step", "phase", ["stuck", "dropped"]), [("done", "dropped", "open", "stuck")])
        self.assertEqual(alike(work(), "step", "phase", ["stuck", "alert", "stuck"]), [("done", "dropped", "open"), ("stuck",)])

    def test_what_is_passed_is_not_modified_and_what_is_told_is_new(self):
        book, wanted = work(), ["alert", "open"]
        told = alike(book, "step", "phase", wanted)
        parting(book, "step", "phase", "done", "open", wanted)
        self.assertEqual([book, wanted], [work(), ["alert", "open"]])
        self.assertTrue(all(isinstance(group, tuple) for group in told))
        expected = list(told)
        told.clear()
        self.assertEqual(alike(book, "step", "phase", wanted), expected)

    def test_arguments_by_name_and_tuples_for_lists(self):
        self.assertEqual(alike(wanted=("alert",), top="phase", hole="step", book=work()), [("done", "dropped", "open"), ("stuck",)])

    def test_the_greatest_numbers(self):
        for hole, top in itertools.product(full().names, repeat=2):
            groups = alike(full(), hole, top, ["a", "b", "h"])
            self.assertEqual(sorted(state for group in groups for state in group), list(possible(full(), hole)))


class Parting(unittest.TestCase):
    def test_example(self):
        self.assertIsNone(parting(work(), "step", "phase", "done", "dropped", ["alert"]))

    def test_the_hole_alone(self):
        self.assertEqual(parting(votes(2), "vote", "vote", "no", "yes", ["yes"]), ())
        self.assertEqual(parting(work(), "step", "step", "done", "stuck", ("stuck",)), ())

    def test_least_surroundings(self):
        thing = parting(work(), "step", "phase", "open", "stuck", ["alert"])
        self.assertEqual(shared_size(thing), 4)
        self.assertEqual(table_of(work(), "step", thing), ("open", "open", "open", "alert"))
        self.assertTrue(is_of_tuples(thing))
        self.assertEqual(parting(levels(3), "level", "level", "b", "c", ["a"]), ("level", ((),)))
        thing = parting(book=levels(4), hole="level", top="level", one="c", other="b", wanted=["a"])
        self.assertEqual(thing, ("level", (("level", ((),)),)))
        self.assertEqual(parting(work(), "step", "phase", "done", "open", ["done"]), ("phase", (("task", ((),)),)))

    def test_a_state_and_itself(self):
        for state in possible(work(), "step"):
            self.assertIsNone(parting(work(), "step", "phase", state, state, ["alert"]))

    def test_none_and_all(self):
        for wanted in [[], votes(2).states]:
            self.assertIsNone(parting(votes(2), "vote", "vote", "no", "yes", wanted))

    def test_no_surrounding(self):
        self.assertIsNone(parting(work(), "phase", "task", "alert", "done", ["open"]))

    def test_many_tasks(self):
        """A least branch with `h`, of which a `ka` with `b` is taken out, which has ten tasks."""
        thing = parting(ladder(), "ka", "kd", "a", "b", ["h"])
        self.assertEqual(shared_size(thing), shared_size(least(ladder(), "kd", "h")) - 10)


class Wrong(unittest.TestCase):
    def wrong(self, error, thing, *calls):
        for call in calls:
            with self.assertRaises(error) as caught:
                call()
            self.assertIs(caught.exception.kind if error == UnknownKind else caught.exception.state, thing)

    def test_unknown_kinds(self):
        for thing in UNKNOWN:
            self.wrong(
                UnknownKind, thing, lambda: alike(work(), thing, "phase", []), lambda: alike(work(), "step", thing, []),
                lambda: alike(work(), thing, None, ["never"]), lambda: alike(work(), "step", thing, ["never"]),
                lambda: parting(work(), thing, "phase", "open", "done", []),
                lambda: parting(work(), "step", thing, "open", "done", []),
                lambda: parting(work(), thing, None, "never", "never", ["never"]),
                lambda: parting(work(), "step", thing, "never", "never", ["never"]),
            )

    def test_wanted_things_that_are_no_states_of_the_book(self):
        for thing in NO_STATES:
            self.wrong(
                BadState, thing, lambda: alike(work(), "step", "phase", [thing]),
                lambda: alike(work(), "step", "phase", ["alert", "alert", thing, "never", None]),
                lambda: parting(work(), "step", "phase", "done", "done", [thing, "never"]),
                lambda: parting(work(), "step", "phase", "done", "open", ("alert", thing)),
            )

    def test_states_that_are_not_possible(self):
        for thing in [*NO_STATES, "alert"]:
            self.wrong(
                BadState, thing, lambda: parting(work(), "step", "phase", thing, "open", []),
                lambda: parting(work(), "step", "phase", "open", thing, []),
                lambda: parting(work(), "step", "phase", thing, "nothing", ["none"]),
                lambda: parting(work(), "step", "phase", "open", thing, ["none"]),
            )
        self.wrong(BadState, "x", lambda: parting(barren(), "ka", "kc", "x", "y", []))


class OtherWays(unittest.TestCase):
    def test_all_surroundings_up_to_a_size(self):
        for number, book in enumerate(brute.small_books(30)):
            for hole in book.names:
                found = brute.surroundings(book, hole, 4)
                for top in book.names:
                    with self.subTest([number, hole, top]):
                        self.compare(book, hole, top, [(size, table_of(book, hole, thing)) for size, thing in found[top]])

    def compare(self, book, hole, top, rows):
        """Compares what parting tells with the tables of all surroundings up to size 4."""
        states = possible(book, hole)
        for wanted in wanted_lists(book.states):
            for first, second in itertools.combinations(range(len(states)), 2):
                sizes = [size for size, row in rows if (row[first] in wanted) != (row[second] in wanted)]
                thing = parting(book, hole, top, states[first], states[second], wanted)
                if sizes or (thing is not None and shared_size(thing) <= 4):
                    self.assertEqual(shared_size(thing), min(sizes, default=None))

    def test_rows_of_states_that_are_not_capped(self):
        for number, book in enumerate(brute.small_books(60)):
            for hole in book.names:
                found = brute.least_climbs(book, [(hole, possible(book, hole))])
                for top in book.names:
                    with self.subTest([number, hole, top]):
                        self.compare_climbs(book, hole, top, [(size, row) for (name, row), size in found.items() if name == top])

    def compare_climbs(self, book, hole, top, rows):
        """Compares the groups and the surroundings with all tables and their least sizes."""
        states = possible(book, hole)
        for wanted in wanted_lists(book.states):
            groups = {}
            for index, state in enumerate(states):
                groups.setdefault(tuple(row[index] in wanted for size, row in rows), []).append(state)
            self.assertEqual(alike(book, hole, top, wanted), sorted(tuple(group) for group in groups.values()))
            for first, second in itertools.combinations(range(len(states)), 2):
                sizes = [size for size, row in rows if (row[first] in wanted) != (row[second] in wanted)]
                thing = parting(book, hole, top, states[first], states[second], wanted)
                self.assertEqual(None if thing is None else shared_size(thing), min(sizes, default=None))
                if thing is not None:
                    row = table_of(book, hole, thing)
                    self.assertNotEqual(row[first] in wanted, row[second] in wanted)


if __name__ == "__main__":
    unittest.main()
