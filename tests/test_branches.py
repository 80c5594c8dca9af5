"""Branches: states, sizes, and what does not belong to a book (points 1 and 7)."""

import copy
import itertools
import unittest

from helper import NOT_NAMES, Agreeing, listed, nested

from partstold.books import Book, Kind
from partstold.branches import size, state_of, states_below
from partstold.errors import BadBranch
from partstold.known import levels, lights, votes, work

LIGHTS = ("unit", (("unit", "green"), ("unit", (("unit", "amber"), ("unit", "green")))))
WORK = ("phase", (
    ("task", (("step", "stuck"), ("step", "done"))),
    ("task", "done"),
    ("task", (("task", (("step", "dropped"), ("step", "dropped"))), ("task", (("step", "stuck"),)))),
))


def deep(many):
    """Returns a branch of so many tasks, each the only part of the one above it."""
    branch = ("level", "a")
    for step in range(many - 1):
        branch = ("level", (branch,))
    return branch


class States(unittest.TestCase):
    def test_example(self):
        self.assertEqual(state_of(lights(), LIGHTS), "amber")
        self.assertEqual(states_below(lights(), LIGHTS), ["amber", "green", "amber", "amber", "green"])

    def test_without_parts(self):
        self.assertEqual(state_of(work(), ("step", "dropped")), "dropped")
        self.assertEqual(states_below(work(), ("task", "open")), ["open"])
        self.assertEqual(size(("step", "dropped")), 1)

    def test_several_kinds(self):
        expected = ["alert", "stuck", "stuck", "done", "done", "stuck", "dropped", "dropped", "dropped", "stuck", "stuck"]
        self.assertEqual(states_below(work(), WORK), expected)
        self.assertEqual(state_of(work(), WORK), "alert")
        self.assertEqual(size(WORK), 11)

    def test_one_part(self):
        self.assertEqual(states_below(votes(1), ("vote", (("vote", "yes"),))), ["yes", "yes"])
        self.assertEqual(states_below(votes(2), ("vote", (("vote", "yes"),))), ["no", "yes"])

    def test_lists_for_tuples(self):
        self.assertEqual(states_below(work(), listed(WORK)), states_below(work(), WORK))
        self.assertEqual(state_of(work(), listed(WORK)), "alert")
        self.assertEqual(size(listed(WORK)), 11)

    def test_arguments_by_name(self):
        self.assertEqual(state_of(branch=LIGHTS, book=lights()), "amber")
        self.assertEqual(states_below(branch=("unit", "red"), book=lights()), ["red"])
        self.assertEqual(size(branch=LIGHTS), 5)

    def test_the_order_of_parts_makes_no_difference(self):
        for parts in itertools.permutations(WORK[1]):
            self.assertEqual(state_of(work(), ("phase", parts)), "alert")

    def test_the_same_branch_for_two_books(self):
        branch = ("vote", (("vote", "yes"), ("vote", (("vote", "yes"), ("vote", "no")))))
        self.assertEqual(states_below(votes(1), branch), ["yes", "yes", "yes", "yes", "no"])
        self.assertEqual(states_below(votes(2), branch), ["no", "yes", "no", "yes", "no"])

    def test_size_of_branches_of_no_book(self):
        self.assertEqual(size(("any", (("thing", "at"), ("all", (("no", "book"),))))), 4)

    def test_what_is_passed_is_not_modified_and_what_is_told_is_new(self):
        branch = listed(WORK)
        before = copy.deepcopy(branch)
        told = states_below(work(), branch)
        state_of(work(), branch)
        size(branch)
        self.assertEqual(branch, before)
        expected = list(told)
        told.clear()
        self.assertEqual(states_below(work(), branch), expected)
        self.assertIs(type(told), list)

    def test_forty_deep(self):
        expected = ["abc"[index % 3] for index in range(40)][::-1]
        self.assertEqual(states_below(levels(3), deep(40)), expected)
        self.assertEqual(state_of(levels(3), deep(40)), expected[0])
        self.assertEqual(size(deep(40)), 40)

    def test_somewhat_deeper(self):
        self.assertEqual(state_of(levels(2), deep(61)), "a")
        self.assertEqual(size(deep(61)), 61)

    def test_one_hundred_and_fifty_tasks(self):
        wide = ("vote", tuple(("vote", "yes" if index < 9 else "no") for index in range(149)))
        self.assertEqual([state_of(votes(9), wide), size(wide)], ["yes", 150])
        self.assertEqual(states_below(votes(9), wide), ["yes"] * 10 + ["no"] * 140)
        fewer = ("vote", wide[1][1:])
        self.assertEqual([state_of(votes(9), fewer), size(fewer)], ["no", 149])


class Wrong(unittest.TestCase):
    def wrong(self, path, book, branch):
        for function in [state_of, states_below]:
            with self.subTest(branch):
                with self.assertRaises(BadBranch) as caught:
                    function(book, branch)
                self.assertEqual(caught.exception.path, path)
                self.assertIs(type(caught.exception.path), tuple)

    def test_any_object(self):
        things = [*NOT_NAMES, "unit", ("unit",), ("unit", "red", "red"), (), [], ["red"], {"unit": "red"}, {"unit", "red"},
                  ("red", "unit"), ("unit", "unit"), ("unit", ()), ("unit", []), ("unit", None), ("unit", {}), ("unit", 3),
                  ("unit", True), ("unit", {"unit": "red"}), ("unit", ""), ("unit", b"red"), ("UNIT", "red"), "ab",
                  (None, "red"), (["unit"], "red"), ({}, "red"), (("unit", "red"),), nested(40, ("unit", "red")),
                  ("other", "red"), ("unit", "blue"), (object(), "red"), ("unit", object()), lights(),
                  (Agreeing(), "red"), ("unit", Agreeing()), (Agreeing(), (("unit", "red"),))]
        for thing in things:
            self.wrong((), lights(), thing)
            self.wrong((1,), lights(), ("unit", (("unit", "red"), thing)))
            self.wrong((0, 1), lights(), ["unit", [["unit", [["unit", "red"], thing, None]]]])

    def test_parts_that_are_no_list(self):
        for thing in [{("unit", "red")}, {("unit", "red"): 1}, iter([("unit", "red")]), range(2)]:
            self.wrong((), lights(), ("unit", thing))

    def test_parts_of_a_wrong_kind(self):
        self.wrong((0,), work(), ("phase", (("step", "open"),)))
        self.wrong((0,), work(), ("phase", (("phase", (("task", "open"),)),)))
        self.wrong((1,), work(), ("task", (("step", "open"), ("phase", (("task", "open"),)))))
        self.wrong((0,), work(), ("step", (("step", "open"),)))
        self.wrong((0,), work(), ("step", (None,)))
        self.wrong((), work(), ("step", ()))

    def test_states_that_are_no_hand_states_of_the_kind(self):
        self.wrong((), work(), ("phase", "open"))
        self.wrong((), work(), ("task", "stuck"))
        self.wrong((), work(), ("step", "alert"))
        self.wrong((0, 1), work(), ("phase", (("task", (("step", "stuck"), ("task", "stuck"))),)))
        self.wrong((), levels(3), ("level", "b"))

    def test_the_first_wrong_task_counts(self):
        self.wrong((0, 1), work(), ("phase", (("task", (("step", "open"), ("step", "alert"))), ("task", "stuck"))))
        self.wrong((1,), work(), ("phase", (("task", (("step", "open"),)), ("phase", (("step", "alert"),)))))
        self.wrong((), work(), ("none", (("step", "alert"),)))
        self.wrong((1, 0), work(), ("phase", (("task", "open"), ("task", ((),)), None)))
        self.wrong((2,), votes(2), ("vote", [("vote", "no"), ("vote", "yes"), ("vote", "maybe"), ("vote", "never")]))

    def test_each_place_of_a_branch(self):
        """The path leads to the task that was put out of order, wherever it is."""
        for path in [(), (0,), (0, 0), (0, 1), (1,), (2,), (2, 0), (2, 0, 1), (2, 1), (2, 1, 0)]:
            branch = listed(WORK)
            task = branch
            for index in path:
                task = task[1][index]
            task.append("more")
            self.wrong(path, work(), branch)

    def test_forty_deep(self):
        branch = ("level", "b")
        for step in range(39):
            branch = ("level", (branch,))
        self.wrong((0,) * 39, levels(3), branch)

    def test_one_hundred_and_fifty_tasks(self):
        self.wrong((148,), votes(2), ("vote", (("vote", "no"),) * 148 + (("vote", "on"),)))

    def test_another_book(self):
        self.wrong((), lights(), ("vote", "yes"))
        book = Book({"unit": Kind(["red"], ["vote"], [], "red"), "vote": Kind(["no"], [], [], "no")})
        self.assertEqual(state_of(book, ("unit", (("vote", "no"),))), "red")
        self.wrong((0,), book, ("unit", (("unit", "red"),)))
        self.wrong((), book, ("vote", "red"))


if __name__ == "__main__":
    unittest.main()
