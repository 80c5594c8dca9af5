"""What the state of the top task tells for sure (point 19)."""

import itertools
import random
import unittest

import brute
from helper import NOT_NAMES, Agreeing, barren, full, is_of_tuples, ladder, nested, shared_size

from partstold.books import Book, Kind
from partstold.branches import size, state_of
from partstold.errors import BadState, UnknownKind
from partstold.known import levels, lights, ticks, votes, work
from partstold.possible import least, possible
from partstold.sure import is_sure, least_with

NO_STATES = [*NOT_NAMES, "never", "step", nested(40, "open"), ("open",), Agreeing()]
RANGES = [(low, high) for low in range(4) for high in [None, 0, 1, 2, 3]]


def counted(branch, among):
    """Returns the number of the tasks without parts of a branch whose state is among some states."""
    return sum(state in among for state in brute.leaves_of(branch))


def is_within(many, low, high):
    return low <= many and (high is None or many <= high)


class LeastWith(unittest.TestCase):
    def test_example(self):
        self.assertEqual(least_with(votes(2), "vote", "yes", ["yes"], 2), ("vote", (("vote", "yes"), ("vote", "yes"))))

    def test_a_top_task_without_parts_is_counted(self):
        self.assertEqual(least_with(votes(2), "vote", "yes", ["yes"], 0), ("vote", "yes"))
        self.assertEqual(least_with(votes(2), "vote", "yes", ["yes"], 1), ("vote", "yes"))
        self.assertEqual(least_with(work(), "step", "stuck", ["stuck", "done"], 1, 1), ("step", "stuck"))
        self.assertIsNone(least_with(work(), "step", "stuck", ["stuck"], 2))
        self.assertIsNone(least_with(work(), "step", "stuck", ["stuck"], 0, 0))
        self.assertEqual(least_with(work(), "step", "stuck", ["done"], 0, 0), ("step", "stuck"))

    def test_only_tasks_without_parts_are_counted(self):
        """The top task is `b` by its part, but this is no task without parts."""
        self.assertEqual(least_with(levels(2), "level", "b", ["b"], 0, 0), ("level", (("level", "a"),)))
        self.assertIsNone(least_with(levels(2), "level", "b", ["b"], 1))
        self.assertEqual(least_with(levels(2), "level", "b", ["a", "b"], 1, 1), ("level", (("level", "a"),)))

    def test_an_upper_bound(self):
        self.assertEqual(least_with(votes(2), "vote", "no", ["yes"], 1, 1), ("vote", (("vote", "yes"),)))
        self.assertEqual(size(least_with(votes(2), "vote", "no", ["yes"], 2, 2)), 4)
        self.assertIsNone(least_with(votes(1), "vote", "no", ["yes"], 1, 3))
        self.assertEqual(least_with(votes(1), "vote", "yes", ["yes"], 0, 1), ("vote", "yes"))
        self.assertIsNone(least_with(votes(1), "vote", "yes", ["yes"], 0, 0))

    def test_no_upper_bound(self):
        self.assertEqual(size(least_with(votes(9), "vote", "no", ["yes"], 3)), 4)
        self.assertEqual(least_with(votes(9), "vote", "no", ["yes"], 3), least_with(votes(9), "vote", "no", ["yes"], 3, None))
        self.assertEqual(size(least_with(votes(2), "vote", "no", ["yes"], 3)), 5)

    def test_among_none(self):
        self.assertEqual(least_with(votes(2), "vote", "yes", [], 0, 0), ("vote", "yes"))
        self.assertEqual(least_with(votes(2), "vote", "yes", [], 0), ("vote", "yes"))
        self.assertIsNone(least_with(votes(2), "vote", "yes", [], 1))
        self.assertIsNone(least_with(votes(2), "vote", "yes", (), 1, 3))

    def test_among_several_states(self):
        states = ["done", "dropped", "open", "stuck"]
        self.assertEqual(size(least_with(work(), "phase", "done", states, 3, 3)), 4)
        self.assertEqual(size(least_with(work(), "phase", "alert", ["stuck", "open", "stuck"], 3, 3)), 6)
        self.assertEqual(least_with(work(), "task", "open", ["dropped", "stuck", "done"], 0, 0), ("task", "open"))

    def test_low_above_high(self):
        for low, high in [(1, 0), (2, 1), (3, 0), (3, 2)]:
            self.assertIsNone(least_with(votes(2), "vote", "yes", ["yes"], low, high))
            self.assertIsNone(least_with(lights(), "unit", "green", ["red", "amber"], low, high))

    def test_more_parts_than_any_condition_counts(self):
        """One part with `x` is all that is ever asked for, but three of them are wanted."""
        book = Book({"a": Kind(["x"], ["a"], [("y", [(1, None, ["x"])])], "z")})
        self.assertEqual(least_with(book, "a", "y", ["x"], 3), ("a", (("a", "x"),) * 3))
        book = Book({"a": Kind(["x"], ["a"], [], "z")})
        self.assertEqual(least_with(book, "a", "z", ["x"], 3, 3), ("a", (("a", "x"),) * 3))
        self.assertEqual(least_with(book, "a", "z", ["x"], 0), ("a", (("a", "x"),)))

    def test_one_part_with_many_or_many_parts(self):
        """A part with three tasks is the same to the task above it as one with a single task."""
        inner = Kind([], ["leaf"], [("odd", [(1, 1, ["x"])])], "even")
        top = Kind([], ["inner"], [("one", [(0, 1, ["even", "odd"])])], "more")
        book = Book({"leaf": Kind(["x"], [], [], "x"), "inner": inner, "top": top})
        self.assertEqual(size(least_with(book, "top", "one", ["x"], 3)), 5)
        self.assertEqual(size(least_with(book, "top", "more", ["x"], 3, 3)), 6)
        self.assertIsNone(least_with(book, "top", "more", ["x"], 0, 1))

    def test_states_that_are_not_possible(self):
        """A state of the book is no error, for whichever kind."""
        for low, high in RANGES:
            self.assertIsNone(least_with(work(), "phase", "stuck", ["alert"], low, high))
            self.assertIsNone(least_with(work(), "step", "alert", ["open"], low, high))
            self.assertIsNone(least_with(barren(), "ka", "x", ["x"], low, high))
        self.assertIsNone(least_with(barren(), "kd", "z", [], 0))

    def test_kinds_of_parts_without_branches(self):
        self.assertEqual(least_with(barren(), "kc", "z", ["y"], 1, 1), ("kc", (("kc", "y"),)))
        self.assertEqual(least_with(barren(), "kc", "x", ["y"], 2, 3)[0], "kc")

    def test_a_least_branch_if_all_numbers_will_do(self):
        for book in [work(), lights(), ticks(), votes(3), levels(5), barren(), full()]:
            for name in book.names:
                for state in book.states:
                    branch, other = least(book, name, state), least_with(book, name, state, book.states, 0)
                    self.assertEqual(branch is None, other is None)
                    if branch is not None:
                        self.assertEqual([size(branch), name, state], [size(other), other[0], state_of(book, other)])

    def test_many_tasks(self):
        book = ladder()
        self.assertEqual(shared_size(least_with(book, "kd", "h", ["a"], 3)), shared_size(least(book, "kd", "h")))
        self.assertIsNone(least_with(book, "kd", "h", ["a"], 0, 3))

    def test_the_greatest_numbers(self):
        book = full()
        for name in book.names:
            for state in possible(book, name):
                branch = least_with(book, name, state, ["a", "e"], 3, 3)
                if branch is not None:
                    self.assertEqual([branch[0], state_of(book, branch), counted(branch, ["a", "e"])], [name, state, 3])

    def test_somewhat_greater_numbers(self):
        self.assertEqual(size(least_with(votes(2), "vote", "yes", ["no"], 6, 7)), 8 + 1)
        self.assertEqual(size(least_with(votes(9), "vote", "no", ["yes"], 8, 8)), 9)

    def test_arguments_by_name_and_tuples_for_lists(self):
        expected = ("vote", (("vote", "yes"),))
        self.assertEqual(least_with(high=1, low=1, among=("yes",), state="no", kind="vote", book=votes(2)), expected)
        self.assertTrue(is_of_tuples(least_with(low=0, among=("yes",), state="no", kind="vote", book=votes(2))))


class IsSure(unittest.TestCase):
    def test_example(self):
        self.assertIs(is_sure(work(), "phase", "alert", ["stuck"], 2), True)

    def test_known_books(self):
        self.assertIs(is_sure(work(), "phase", "alert", ["stuck"], 3), False)
        self.assertIs(is_sure(work(), "phase", "alert", ["stuck"], 2, 3), False)
        self.assertIs(is_sure(work(), "phase", "done", ["stuck"], 0, 0), True)
        self.assertIs(is_sure(work(), "phase", "done", ["stuck", "open"], 0, 0), True)
        self.assertIs(is_sure(work(), "phase", "done", ["done", "dropped"], 1), True)
        self.assertIs(is_sure(work(), "phase", "done", ["done"], 1), False)
        self.assertIs(is_sure(lights(), "unit", "amber", ["amber"], 1), True)
        self.assertIs(is_sure(lights(), "unit", "amber", ["red"], 0, 0), True)
        self.assertIs(is_sure(votes(3), "vote", "yes", ["yes"], 2), False)
        self.assertIs(is_sure(votes(1), "vote", "no", ["yes"], 0, 0), True)
        self.assertIs(is_sure(votes(2), "vote", "no", ["yes"], 0, 3), False)

    def test_among_none(self):
        self.assertIs(is_sure(work(), "phase", "open", [], 0), True)
        self.assertIs(is_sure(work(), "phase", "open", [], 0, 0), True)
        self.assertIs(is_sure(work(), "phase", "open", [], 1), False)

    def test_low_above_high(self):
        self.assertIs(is_sure(work(), "phase", "open", ["open"], 2, 1), False)
        self.assertIs(is_sure(work(), "phase", "stuck", ["open"], 2, 1), True)

    def test_no_branch_at_all(self):
        for low, high in RANGES:
            self.assertIs(is_sure(work(), "phase", "stuck", ["stuck"], low, high), True)
            self.assertIs(is_sure(barren(), "kd", "x", ["x"], low, high), True)

    def test_one_task(self):
        self.assertIs(is_sure(work(), "step", "stuck", ["stuck"], 1, 1), True)
        self.assertIs(is_sure(work(), "step", "stuck", ["stuck"], 0, 0), False)
        self.assertIs(is_sure(work(), "step", "stuck", ["open"], 0, 0), True)

    def test_arguments_by_name_and_tuples_for_lists(self):
        self.assertIs(is_sure(high=3, low=1, among=("stuck",), state="alert", kind="phase", book=work()), False)
        self.assertIs(is_sure(low=2, among=("stuck",), state="alert", kind="phase", book=work()), True)


class Wrong(unittest.TestCase):
    def wrong(self, error, thing, *arguments):
        for function in [least_with, is_sure]:
            for more in [(0,), (3, 0), (1, None)]:
                with self.assertRaises(error) as caught:
                    function(work(), *arguments, *more)
                self.assertIs(caught.exception.kind if error == UnknownKind else caught.exception.state, thing)

    def test_unknown_kinds(self):
        for thing in [*NOT_NAMES, "steps", "open", nested(40, "step"), ("step",), work()]:
            self.wrong(UnknownKind, thing, thing, "open", ["open"])
            self.wrong(UnknownKind, thing, thing, "never", ["never"])

    def test_states(self):
        for thing in NO_STATES:
            self.wrong(BadState, thing, "phase", thing, ["open"])
            self.wrong(BadState, thing, "phase", thing, ["never", None])

    def test_things_of_the_list(self):
        for thing in NO_STATES:
            self.wrong(BadState, thing, "phase", "open", [thing])
            self.wrong(BadState, thing, "phase", "open", ("alert", "alert", thing, "never", None))
            # The state is not possible for the kind, but the list is looked at all the same.
            self.wrong(BadState, thing, "phase", "stuck", [thing, "never"])

    def test_what_is_passed_is_not_modified(self):
        book, among = work(), ["stuck", "open", "stuck"]
        least_with(book, "phase", "alert", among, 1, 2)
        is_sure(book, "phase", "alert", among, 1, 2)
        self.assertEqual([book, among], [work(), ["stuck", "open", "stuck"]])


class OtherWays(unittest.TestCase):
    def test_all_branches_up_to_a_size(self):
        for number, book in enumerate(brute.small_books(50)):
            chance = random.Random(number)
            found = brute.branches(book, 5)
            for among in [[], list(book.states), chance.sample(book.states, 1), chance.sample(book.states, 1) * 2]:
                for name in book.names:
                    rows = [(own, state_of(book, branch), counted(branch, among)) for own, branch in found[name]]
                    with self.subTest([number, name, among]):
                        self.compare(book, name, among, rows, chance.sample(RANGES, 5))

    def compare(self, book, name, among, rows, ranges):
        """Compares what the package tells with the sizes, states and numbers of all branches up to size 5."""
        for state, (low, high) in itertools.product(book.states, ranges):
            sizes = [own for own, told, many in rows if told == state and is_within(many, low, high)]
            branch = least_with(book, name, state, among, low, high)
            if sizes or (branch and shared_size(branch) <= 5):
                self.assertEqual(shared_size(branch), min(sizes, default=None))
            if branch:
                self.assertEqual([branch[0], state_of(book, branch)], [name, state])
                self.assertTrue(is_within(counted(branch, among), low, high))
                self.assertTrue(is_of_tuples(branch))
            if [many for own, told, many in rows if told == state and not is_within(many, low, high)]:
                self.assertFalse(is_sure(book, name, state, among, low, high))

    def test_sure_or_a_branch_for_which_it_is_not_so(self):
        for number, book in enumerate(brute.small_books(80)):
            chance = random.Random(number)
            among = chance.sample(book.states, chance.randrange(len(book.states) + 1))
            for name, state in itertools.product(book.names, book.states):
                for low, high in chance.sample(RANGES, 4):
                    against = [least_with(book, name, state, among, 0, low - 1)] if low else []
                    if high is not None:
                        against.append(least_with(book, name, state, among, high + 1))
                    with self.subTest([number, name, state, low, high]):
                        self.assertEqual(is_sure(book, name, state, among, low, high), against.count(None) == len(against))

    def test_rows_of_states_and_numbers_that_are_not_capped(self):
        for number, book in enumerate(brute.small_books(60)):
            chance = random.Random(number)
            among = chance.sample(book.states, chance.randrange(1, len(book.states) + 1))
            sizes = brute.least_numbers(book, among)
            for name, state in itertools.product(book.names, book.states):
                for low, high in chance.sample(RANGES, 4):
                    rows = [own for (told, many), own in sizes[name].items() if told == state and is_within(many, low, high)]
                    branch = least_with(book, name, state, among, low, high)
                    with self.subTest([number, name, state, among, low, high]):
                        self.assertEqual(shared_size(branch) if branch else None, min(rows, default=None))


if __name__ == "__main__":
    unittest.main()
