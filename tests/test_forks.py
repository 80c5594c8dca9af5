"""Two deeds at once: rows, double surroundings and flickers (points 17 and 18)."""

import copy
import itertools
import random
import unittest

import brute
from helper import NOT_NAMES, Agreeing, barren, full, is_of_tuples, ladder, listed, nested, shared_size
from test_deeds import turning

from partstold.books import Book, Kind
from partstold.branches import state_of
from partstold.errors import BadState, UnknownKind
from partstold.forks import filled_twice, flickers, fork, rows
from partstold.known import levels, lights, ticks, votes, work
from partstold.possible import least, possible

UNKNOWN = [*NOT_NAMES, "steps", "open", nested(40, "step"), ("step",), Agreeing(), work()]
NO_STATES = [*NOT_NAMES, "never", "step", nested(40, "open"), ("open",), Agreeing()]
UP, DOWN = ("vote", "no", "yes"), ("vote", "yes", "no")
STUCK, DONE = ("step", "open", "stuck"), ("step", "stuck", "done")


def row_of(book, one, two, double):
    """Returns the row of a double surrounding, by putting least branches into its holes."""
    return row_by(book, double, branches_of(book, one), branches_of(book, two))


def branches_of(book, change):
    """Returns least branches with the old and with the new state of a change."""
    kind, old, new = change
    return [least(book, kind, old), least(book, kind, new)]


def row_by(book, double, firsts, seconds):
    """Returns the row of a double surrounding if these branches are put into its holes."""
    return tuple(state_of(book, filled_twice(double, first, second)) for second in seconds for first in firsts)


def both(book):
    """Returns all pairs of changes of a book."""
    changes = [(name, *pair) for name in book.names for pair in itertools.product(possible(book, name), repeat=2)]
    return list(itertools.product(changes, repeat=2))


class Rows(unittest.TestCase):
    def test_example(self):
        self.assertEqual(rows(votes(1), UP, DOWN, "vote"), [("yes", "yes", "no", "yes"), ("yes", "yes", "yes", "yes")])

    def test_the_order_of_the_four_states(self):
        """The first change alone comes ahead of the second one alone."""
        clauses = [("both", [(1, None, ["b"]), (1, None, ["y"])]), ("one", [(1, None, ["b"])]), ("two", [(1, None, ["y"])])]
        book = Book({"k": Kind(["a", "b", "x", "y"], [], [], "a"), "top": Kind([], ["k"], clauses, "none")})
        one, two = ("k", "a", "b"), ("k", "x", "y")
        self.assertIn(("none", "one", "two", "both"), rows(book, one, two, "top"))
        self.assertNotIn(("none", "two", "one", "both"), rows(book, one, two, "top"))
        self.assertIn(("none", "two", "one", "both"), rows(book, two, one, "top"))
        self.assertIn(("both", "two", "one", "none"), rows(book, ("k", "b", "a"), ("k", "y", "x"), "top"))
        self.assertEqual(fork(book, one, two, "top", ("none", "one", "two", "both")), ("top", ((), ())))

    def test_no_hole_is_the_top_task(self):
        self.assertEqual(rows(work(), ("step", "open", "done"), ("step", "open", "done"), "step"), [])
        self.assertEqual(rows(work(), ("phase", "alert", "done"), ("step", "open", "done"), "phase"), [])
        self.assertEqual(rows(work(), ("phase", "open", "done"), ("phase", "open", "done"), "phase"), [])

    def test_known_books(self):
        self.assertEqual(rows(work(), STUCK, DONE, "phase"), [
            ("alert", "alert", "alert", "alert"), ("alert", "alert", "open", "alert"), ("alert", "alert", "open", "open"),
            ("open", "alert", "open", "alert"), ("open", "alert", "open", "open"), ("open", "open", "open", "open")])
        self.assertEqual(rows(work(), STUCK, DONE, "task"), [
            ("stuck", "stuck", "open", "stuck"), ("stuck", "stuck", "stuck", "stuck")])
        self.assertEqual(rows(ticks(), ("box", "off", "on"), ("box", "off", "on"), "box"), [
            ("off", "part", "part", "on"), ("off", "part", "part", "part"), ("part", "part", "part", "on"),
            ("part", "part", "part", "part")])
        self.assertEqual(rows(lights(), ("unit", "green", "red"), ("unit", "red", "green"), "unit"), [
            ("red", "red", "amber", "red"), ("red", "red", "green", "red"), ("red", "red", "red", "red")])

    def test_changes_of_different_kinds(self):
        one, two = ("step", "open", "dropped"), ("task", "open", "stuck")
        self.assertEqual(rows(work(), one, two, "task"), [
            ("open", "open", "stuck", "stuck"), ("stuck", "stuck", "stuck", "stuck")])
        # The phase is done by the first change only where the second hole is in another task than the first one.
        self.assertNotIn(("open", "done", "open", "open"), rows(work(), one, two, "phase"))
        self.assertIn(("open", "done", "open", "open"), rows(work(), one, ("task", "done", "stuck"), "phase"))

    def test_changes_of_nothing(self):
        """A change may have two equal states; then nothing flickers."""
        self.assertEqual(rows(votes(2), ("vote", "no", "no"), ("vote", "no", "no"), "vote"), [("no",) * 4, ("yes",) * 4])
        self.assertEqual(rows(votes(1), ("vote", "yes", "yes"), UP, "vote"), [("yes",) * 4])
        self.assertEqual(rows(votes(2), ("vote", "no", "no"), UP, "vote"), [
            ("no", "no", "no", "no"), ("no", "no", "yes", "yes"), ("yes", "yes", "yes", "yes")])
        self.assertEqual(rows(votes(2), UP, ("vote", "no", "no"), "vote"), [
            ("no", "no", "no", "no"), ("no", "yes", "no", "yes"), ("yes", "yes", "yes", "yes")])

    def test_both_holes_in_one_part(self):
        """Just one of the parts of a `top` tells anything, so both changes are below it."""
        pair = Kind([], ["leaf"], [("two", [(2, None, ["b"])]), ("one", [(1, None, ["b"])])], "zero")
        top = Kind([], ["pair"], [("yes", [(1, None, ["two"])])], "no")
        book = Book({"leaf": Kind(["a", "b"], [], [], "a"), "pair": pair, "top": top})
        change = ("leaf", "a", "b")
        self.assertEqual(rows(book, change, change, "top"), [
            ("no", "no", "no", "no"), ("no", "no", "no", "yes"), ("no", "no", "yes", "yes"), ("no", "yes", "no", "yes"),
            ("no", "yes", "yes", "yes"), ("yes", "yes", "yes", "yes")])
        self.assertEqual(fork(book, change, change, "top", ("no", "no", "no", "yes")), ("top", (("pair", ((), ())),)))
        self.assertEqual(fork(book, change, change, "top", ("no", "yes", "yes", "yes")), ("top", (("pair", ((), (), ("leaf", "b"))),)))

    def test_kinds_of_which_there_is_no_branch(self):
        book = barren()
        self.assertEqual(rows(book, ("kc", "x", "y"), ("kc", "y", "x"), "ka"), [])
        self.assertEqual(rows(book, ("kc", "x", "y"), ("kc", "y", "x"), "kd"), [])
        self.assertEqual(rows(book, ("kc", "x", "z"), ("kc", "y", "x"), "kc"), [
            ("x", "z", "x", "x"), ("x", "x", "x", "x")][::-1])

    def test_many_rows(self):
        """All rows that are ever told lie in each other's way here: 365 of them, and of surroundings far more."""
        book = turning()
        told = rows(book, ("ka", "p", "t"), ("kc", "q", "r"), "kb")
        self.assertEqual(len(told), len(set(told)))
        for row in told[::40]:
            double = fork(book, ("ka", "p", "t"), ("kc", "q", "r"), "kb", row)
            self.assertEqual(row_of(book, ("ka", "p", "t"), ("kc", "q", "r"), double), row)

    def test_the_greatest_numbers(self):
        book = full()
        one, two = ("ka", "a", "c"), ("kb", "e", "g")
        for top in book.names:
            told = rows(book, one, two, top)
            self.assertEqual(told, sorted(set(told)))
            for row in told[::25]:
                self.assertEqual(row_of(book, one, two, fork(book, one, two, top, row)), row)

    def test_lists_for_tuples(self):
        self.assertEqual(rows(votes(1), list(UP), list(DOWN), "vote"), rows(votes(1), UP, DOWN, "vote"))
        self.assertEqual(fork(votes(1), list(UP), list(DOWN), "vote", ["yes"] * 4), fork(votes(1), UP, DOWN, "vote", ("yes",) * 4))
        self.assertEqual(flickers(votes(1), list(UP), list(DOWN), "vote"), [("yes", "yes", "no", "yes")])

    def test_the_lists_are_new_and_nothing_is_modified(self):
        for function in [rows, flickers]:
            book, one, two = votes(1), list(UP), list(DOWN)
            told = function(book, one, two, "vote")
            self.assertTrue(all(isinstance(row, tuple) for row in told))
            expected = list(told)
            told.clear()
            self.assertEqual(function(book, one, two, "vote"), expected)
            self.assertEqual([book, one, two], [votes(1), list(UP), list(DOWN)])

    def test_arguments_by_name(self):
        self.assertEqual(rows(top="vote", two=DOWN, one=UP, book=votes(1)), [("yes", "yes", "no", "yes"), ("yes",) * 4])
        self.assertEqual(flickers(top="vote", two=DOWN, one=UP, book=votes(1)), [("yes", "yes", "no", "yes")])


class Fork(unittest.TestCase):
    def test_two_holes_alone(self):
        self.assertEqual(fork(votes(2), UP, UP, "vote", ("no", "no", "no", "yes")), ("vote", ((), ())))
        self.assertEqual(fork(votes(1), UP, DOWN, "vote", ("yes", "yes", "no", "yes")), ("vote", ((), ())))

    def test_least_double_surroundings(self):
        double = fork(votes(3), UP, UP, "vote", ("no", "no", "no", "yes"))
        self.assertEqual([shared_size(double), row_of(votes(3), UP, UP, double)], [2, ("no", "no", "no", "yes")])
        double = fork(work(), STUCK, DONE, "phase", ("open", "alert", "open", "open"))
        self.assertEqual([shared_size(double), row_of(work(), STUCK, DONE, double)], [3, ("open", "alert", "open", "open")])
        self.assertTrue(is_of_tuples(double))
        double = fork(work(), STUCK, DONE, "phase", ("alert", "alert", "alert", "alert"))
        self.assertEqual([double[0], row_of(work(), STUCK, DONE, double)], ["phase", ("alert",) * 4])

    def test_the_first_hole_is_that_of_the_first_change(self):
        one, two = ("step", "open", "stuck"), ("task", "open", "done")
        for row in rows(work(), one, two, "phase"):
            self.assertEqual(row_of(work(), one, two, fork(work(), one, two, "phase", row)), row)
            self.assertEqual(row_of(work(), two, one, fork(work(), two, one, "phase", (row[0], row[2], row[1], row[3]))),
                             (row[0], row[2], row[1], row[3]))

    def test_other_rows(self):
        for row in [("no",) * 4, ("yes", "no", "yes", "yes"), ("yes", "yes", "no"), ("yes",) * 5, (), [], ("yes", "yes", "no", "maybe")]:
            self.assertIsNone(fork(votes(1), UP, DOWN, "vote", row))
        self.assertIsNone(fork(work(), STUCK, DONE, "step", ("open",) * 4))
        self.assertIsNone(fork(barren(), ("kc", "x", "y"), ("kc", "y", "x"), "kd", ("x",) * 4))

    def test_rows_of_what_are_no_states(self):
        for thing in NO_STATES:
            self.assertIsNone(fork(votes(1), UP, DOWN, "vote", ("yes", "yes", thing, "yes")))
            self.assertIsNone(fork(votes(1), UP, DOWN, "vote", [thing] * 4))
            self.assertIsNone(fork(votes(1), UP, DOWN, "vote", thing))

    def test_many_tasks(self):
        """A least branch with `h`, of which two tasks with `b` are taken out, which have ten tasks each."""
        book = ladder()
        change = ("ka", "a", "b")
        double = fork(book, change, change, "kd", ("a", "a", "a", "h"))
        self.assertEqual(shared_size(double), shared_size(least(book, "kd", "h")) - 20)

    def test_arguments_by_name(self):
        self.assertEqual(fork(row=("no", "no", "no", "yes"), top="vote", two=UP, one=UP, book=votes(2)), ("vote", ((), ())))


class Flickers(unittest.TestCase):
    def test_example(self):
        self.assertEqual(flickers(votes(1), UP, DOWN, "vote"), [("yes", "yes", "no", "yes")])

    def test_the_first_state_is_the_last_one(self):
        self.assertEqual(flickers(ticks(), ("box", "off", "on"), ("box", "on", "off"), "box"), [
            ("part", "on", "off", "part"), ("part", "on", "part", "part"), ("part", "part", "off", "part")])

    def test_the_first_state_is_not_the_last_one(self):
        """Rows whose states in the middle are the first or the last one are no flickers."""
        told = flickers(ticks(), ("box", "off", "on"), ("box", "off", "on"), "box")
        self.assertEqual(told, [("off", "part", "part", "on")])
        self.assertIn(("off", "part", "part", "part"), rows(ticks(), ("box", "off", "on"), ("box", "off", "on"), "box"))
        self.assertEqual(flickers(work(), STUCK, DONE, "phase"), [
            ("alert", "alert", "open", "alert"), ("open", "alert", "open", "open")])

    def test_none(self):
        self.assertEqual(flickers(votes(9), UP, UP, "vote"), [])
        self.assertEqual(flickers(lights(), ("unit", "green", "red"), ("unit", "amber", "amber"), "unit"), [])

    def test_all_books(self):
        for number, book in enumerate(brute.small_books(30)):
            chance = random.Random(number)
            for one, two in chance.sample(both(book), min(4, len(both(book)))):
                for top in book.names:
                    expected = [(a, b, c, d) for a, b, c, d in rows(book, one, two, top) if not {b, c} <= {a, d}]
                    self.assertEqual(flickers(book, one, two, top), expected)


class FilledTwice(unittest.TestCase):
    DOUBLE = ("phase", (("task", (("step", "open"), ("task", ((), ("step", "done"))))), ("task", "done"), ("task", ((),))))

    def test_the_first_and_the_second_hole(self):
        one, two = ("vote", "no"), ("vote", "yes")
        self.assertEqual(filled_twice(("vote", ((), ())), one, two), ("vote", (one, two)))
        self.assertEqual(filled_twice(("vote", ((), ("vote", "no"), ())), two, one), ("vote", (two, one, one)))

    def test_holes_far_below(self):
        told = filled_twice(self.DOUBLE, ("step", "stuck"), ("task", (("step", "dropped"),)))
        self.assertEqual(told, ("phase", (
            ("task", (("step", "open"), ("task", (("step", "stuck"), ("step", "done"))))), ("task", "done"),
            ("task", (("task", (("step", "dropped"),)),)))))

    def test_a_hole_at_the_left_may_be_the_deeper_or_the_higher_one(self):
        self.assertEqual(filled_twice(("a", (("b", ((),)), ())), ("c", "x"), ("d", "y")), ("a", (("b", (("c", "x"),)), ("d", "y"))))
        self.assertEqual(filled_twice(("a", ((), ("b", ((),)))), ("c", "x"), ("d", "y")), ("a", (("c", "x"), ("b", (("d", "y"),)))))

    def test_parts_without_holes_stay_as_they_are(self):
        other = ("b", (("c", "z"), ("b", (("c", "z"),))))
        told = filled_twice(("a", (other, ("b", (other, (), other)), other, (), other)), ("c", "x"), ("d", "y"))
        self.assertEqual(told, ("a", (other, ("b", (other, ("c", "x"), other)), other, ("d", "y"), other)))

    def test_lists_whichever_book_and_nothing_modified(self):
        double, first, second = listed(self.DOUBLE), ["any", "thing"], ["no", [["book", "has"]]]
        before = copy.deepcopy([double, first, second])
        told = filled_twice(double, first, second)
        self.assertEqual([double, first, second], before)
        self.assertTrue(is_of_tuples(told))
        self.assertEqual(told[1][0][1][1][1][0], ("any", "thing"))
        self.assertEqual(told[1][2], ("task", (("no", (("book", "has"),)),)))

    def test_arguments_by_name(self):
        self.assertEqual(filled_twice(second=("a", "y"), first=("a", "x"), double=("a", ((), ()))), ("a", (("a", "x"), ("a", "y"))))

    def test_forty_deep_and_one_hundred_and_fifty_tasks(self):
        double = ("level", ((), ()))
        for step in range(38):
            double = ("level", (("level", "a"), double, ("level", "a")))
        told = filled_twice(double, ("level", "a"), ("level", "a"))
        self.assertEqual(shared_size(told), 3 * 38 + 3)
        self.assertEqual(state_of(levels(2), told), "b")


class Wrong(unittest.TestCase):
    def wrong(self, error, thing, *arguments):
        for function, more in [(rows, ()), (flickers, ()), (fork, (("no",) * 4,)), (fork, (None,))]:
            with self.assertRaises(error) as caught:
                function(work(), *arguments, *more)
            self.assertIs(caught.exception.kind if error == UnknownKind else caught.exception.state, thing)

    def test_unknown_kinds(self):
        for thing in UNKNOWN:
            self.wrong(UnknownKind, thing, (thing, "open", "done"), STUCK, "phase")
            self.wrong(UnknownKind, thing, STUCK, (thing, "open", "done"), "phase")
            self.wrong(UnknownKind, thing, STUCK, DONE, thing)

    def test_states_that_are_not_possible(self):
        for thing in [*NO_STATES, "alert"]:
            self.wrong(BadState, thing, ("step", thing, "open"), STUCK, "phase")
            self.wrong(BadState, thing, ("task", "open", thing), STUCK, "phase")
            self.wrong(BadState, thing, STUCK, ("step", thing, "open"), "phase")
            self.wrong(BadState, thing, STUCK, ["task", "dropped", thing], "phase")
        self.wrong(BadState, "stuck", STUCK, ("phase", "stuck", "open"), "phase")

    def test_the_order_of_the_checks(self):
        for thing in NOT_NAMES:
            self.wrong(UnknownKind, thing, (thing, None, None), (None, None, None), None)
            self.wrong(BadState, thing, ("task", thing, "alert"), (None, "never", None), None)
            self.wrong(BadState, "alert", ("task", "open", "alert"), (thing, thing, thing), thing)
            self.wrong(UnknownKind, thing, STUCK, (thing, None, None), None)
            self.wrong(BadState, "alert", STUCK, ("task", "alert", thing), thing)

    def test_a_kind_without_branches(self):
        for one, two, thing in [(("ka", "x", "x"), (None, "x", "x"), "x"), (("kc", "x", "x"), ("kd", "y", "x"), "y")]:
            with self.assertRaises(BadState) as caught:
                rows(barren(), one, two, None)
            self.assertEqual(caught.exception.state, thing)


class OtherWays(unittest.TestCase):
    def test_all_double_surroundings_up_to_a_size(self):
        for number, book in enumerate(brute.small_books(16)):
            chance = random.Random(number)
            for one_kind, two_kind in itertools.product(book.names, repeat=2):
                found = brute.doubles(book, one_kind, two_kind, 4)
                changes = [pair for pair in both(book) if (pair[0][0], pair[1][0]) == (one_kind, two_kind)]
                for one, two in chance.sample(changes, min(2, len(changes))):
                    with self.subTest([number, one, two]):
                        self.compare(book, one, two, found)

    def compare(self, book, one, two, found):
        """Compares what the package tells with all double surroundings up to size 4, filled with least branches."""
        firsts, seconds = branches_of(book, one), branches_of(book, two)
        for top in book.names:
            sizes = {}
            for size, double in found[top]:
                sizes.setdefault(row_by(book, double, firsts, seconds), size)
            told = rows(book, one, two, top)
            self.assertLessEqual(set(sizes), set(told))
            for row in told:
                double = fork(book, one, two, top, row)
                self.assertEqual([double[0], row_by(book, double, firsts, seconds)], [top, row])
                self.assertTrue(is_of_tuples(double))
                if row in sizes or shared_size(double) <= 4:
                    self.assertEqual(shared_size(double), sizes.get(row))

    def test_rows_of_states_that_are_not_capped(self):
        for number, book in enumerate(brute.small_books(120)):
            chance = random.Random(number)
            for one, two in chance.sample(both(book), min(3, len(both(book)))):
                with self.subTest([number, one, two]):
                    sizes = brute.least_forks(book, one, two)
                    for top in book.names:
                        told = rows(book, one, two, top)
                        self.assertEqual(told, sorted(row for name, row in sizes if name == top))
                        for row in told:
                            self.assertEqual(shared_size(fork(book, one, two, top, row)), sizes[top, row])


if __name__ == "__main__":
    unittest.main()
