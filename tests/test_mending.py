"""The fewest settings with which a branch has a state (point 20)."""

import copy
import random
import unittest

import brute
from helper import NOT_NAMES, Agreeing, barren, full, is_of_tuples, listed, nested

from partstold.books import Book, Kind
from partstold.branches import size, state_of
from partstold.errors import BadBranch, BadState
from partstold.known import levels, lights, ticks, votes, work
from partstold.mending import fewest, settings

NO_STATES = [*NOT_NAMES, "never", "step", nested(40, "open"), ("open",), Agreeing()]
VOTES = ("vote", (("vote", "no"), ("vote", "yes"), ("vote", "no")))
WORK = ("phase", (
    ("task", (("step", "stuck"), ("step", "done"))),
    ("task", "done"),
    ("task", (("task", (("step", "dropped"), ("step", "open"))), ("task", (("step", "stuck"),)))),
))


def shape(branch):
    """Returns a branch without its states."""
    kind, rest = branch
    return kind if isinstance(rest, str) else (kind, tuple(shape(part) for part in rest))


def unlike_leaves(one, other):
    """Returns the number of the tasks without parts that have another state in another branch."""
    return sum(own != their for own, their in zip(brute.leaves_of(one), brute.leaves_of(other)))


class Mending(unittest.TestCase):
    def check(self, book, branch, state, expected):
        """Checks the least number, and the branch that is told, if there is one."""
        self.assertEqual(fewest(book, branch, state), expected)
        told = settings(book, branch, state)
        if expected is None:
            self.assertIsNone(told)
            return
        self.assertTrue(is_of_tuples(told))
        self.assertEqual([shape(told), state_of(book, told)], [shape(branch), state])
        self.assertEqual(unlike_leaves(branch, told), expected)
        if expected == 0:
            self.assertEqual(listed(told), listed(branch))

    def test_example(self):
        self.assertEqual([fewest(votes(2), VOTES, "yes"), fewest(votes(9), VOTES, "yes")], [1, None])
        self.assertEqual(settings(votes(2), VOTES, "no"), ("vote", (("vote", "no"), ("vote", "yes"), ("vote", "no"))))

    def test_known_books(self):
        self.check(votes(2), VOTES, "yes", 1)
        self.check(votes(3), VOTES, "yes", 2)
        self.check(votes(1), VOTES, "no", 1)
        self.check(work(), WORK, "alert", 0)
        self.check(work(), WORK, "open", 1)
        self.check(work(), WORK, "done", 3)
        self.check(ticks(), ("box", (("box", "on"), ("box", "off"), ("box", "on"))), "on", 1)
        self.check(ticks(), ("box", (("box", "on"), ("box", "off"), ("box", "on"))), "off", 2)
        self.check(lights(), ("unit", (("unit", "red"), ("unit", (("unit", "red"), ("unit", "red"))))), "green", 3)

    def test_one_task(self):
        self.check(work(), ("step", "stuck"), "stuck", 0)
        self.check(work(), ("step", "stuck"), "done", 1)
        self.check(work(), ("step", "stuck"), "alert", None)
        self.check(work(), ("task", "open"), "stuck", None)
        self.assertEqual(settings(work(), ("step", "stuck"), "done"), ("step", "done"))

    def test_a_state_that_the_branch_has_already(self):
        for book, branch in [(work(), WORK), (votes(2), VOTES), (levels(3), ("level", (("level", "a"),)))]:
            self.assertEqual(fewest(book, branch, state_of(book, branch)), 0)
            self.assertEqual(settings(book, branch, state_of(book, branch)), branch)

    def test_states_of_other_kinds(self):
        """A state of the book that no branch of this kind has, or none of this form."""
        self.check(work(), WORK, "stuck", None)
        self.check(work(), ("task", (("task", "open"),)), "dropped", None)
        self.check(levels(3), ("level", (("level", "a"),)), "a", None)
        self.check(barren(), ("kc", "x"), "z", None)
        self.check(barren(), ("kc", (("kc", "y"),)), "x", 1)

    def test_one_hand_state(self):
        self.check(levels(7), ("level", (("level", (("level", "a"),)), ("level", "a"))), "c", None)
        self.check(levels(7), ("level", (("level", (("level", "a"),)), ("level", "a"))), "b", 0)

    def test_settings_that_help_each_other(self):
        """With one of the parts set anew the state is farther away than before."""
        clauses = [("good", [(0, 0, ["b"])]), ("good", [(3, None, ["b"])])]
        book = Book({"top": Kind([], ["k"], clauses, "bad"), "k": Kind(["a", "b"], [], [], "a")})
        self.check(book, ("top", (("k", "a"),) * 5), "bad", 1)
        self.check(book, ("top", (("k", "b"),) + (("k", "a"),) * 3), "good", 1)
        self.check(book, ("top", (("k", "a"), ("k", "b"), ("k", "b"), ("k", "a"))), "good", 1)
        self.check(book, ("top", (("k", "a"), ("k", "b"))), "good", 1)

    def test_a_part_may_need_several_settings(self):
        """The state is had by a setting in each of three parts, or by three in one of them and none elsewhere."""
        deep = Kind([], ["k"], [("full", [(0, 0, ["a"])])], "part")
        book = Book({"top": Kind([], ["deep", "k"], [("good", [(1, None, ["full"])])], "bad"), "deep": deep, "k": Kind(["a", "b"], [], [], "a")})
        branch = ("top", (("deep", (("k", "a"),) * 3), ("k", "a"), ("deep", (("k", "a"), ("k", "b"), ("k", "a")))))
        self.check(book, branch, "good", 2)
        self.assertEqual(settings(book, branch, "good")[1][:2], branch[1][:2])

    def test_the_order_of_the_parts(self):
        branch = ("phase", (("task", (("task", "done"), ("step", "stuck"))), ("task", "open"), ("task", (("step", "open"), ("task", "done")))))
        self.check(work(), branch, "alert", 1)
        told = settings(work(), branch, "alert")
        self.assertEqual(told, ("phase", (*branch[1][:2], ("task", (("step", "stuck"), ("task", "done"))))))

    def test_one_hundred_and_fifty_tasks(self):
        wide = ("vote", tuple(("vote", "yes" if index % 20 == 0 else "no") for index in range(149)))
        self.check(votes(9), wide, "yes", 1)
        self.check(votes(8), wide, "no", 1)
        self.check(votes(2), wide, "no", 7)
        deep = ("vote", "no")
        for step in range(39):
            deep = ("vote", (("vote", "no"), deep, ("vote", "no")))
        self.check(votes(1), deep, "yes", 1)
        self.check(votes(3), deep, "yes", 79)
        self.check(votes(2), deep, "yes", 2)

    def test_the_greatest_numbers(self):
        leaves = tuple(("ka", "acd"[index % 3]) for index in range(110)) + tuple(("kb", "be"[index % 2]) for index in range(36))
        for branch in [("ka", leaves), ("kb", (("ka", leaves[:70]), ("kb", leaves[70:])))]:
            for state in full().states:
                self.check(full(), branch, state, fewest(full(), branch, state))
            self.assertEqual(fewest(full(), branch, state_of(full(), branch)), 0)

    def test_lists_and_nothing_modified(self):
        book, branch = work(), listed(WORK)
        before = copy.deepcopy(branch)
        self.assertEqual(fewest(book, branch, "done"), 3)
        told = settings(book, branch, "done")
        self.assertTrue(is_of_tuples(told))
        self.assertEqual([book, branch], [work(), before])
        self.assertEqual(settings(book, branch, "done"), told)

    def test_arguments_by_name(self):
        self.assertEqual(fewest(state="yes", branch=VOTES, book=votes(2)), 1)
        self.assertEqual(settings(state="no", branch=VOTES, book=votes(2)), VOTES)


class Wrong(unittest.TestCase):
    def wrong_path(self, path, book, branch):
        for function in [fewest, settings]:
            for state in ["yes", "never", None]:
                with self.assertRaises(BadBranch) as caught:
                    function(book, branch, state)
                self.assertEqual(caught.exception.path, path)

    def test_branches(self):
        for thing in [*NOT_NAMES, "vote", ("vote",), ("vote", "maybe"), ("vote", ()), (), [], ("other", "yes"), nested(40, "no"), votes(2)]:
            self.wrong_path((), votes(2), thing)
            self.wrong_path((1,), votes(2), ("vote", [("vote", "no"), thing, ("vote", None)]))
            self.wrong_path((0, 2), votes(2), ("vote", (("vote", (("vote", "no"), ("vote", "yes"), thing)), thing)))
        self.wrong_path((0,), work(), ("phase", (("step", "open"),)))
        self.wrong_path((), work(), ("phase", "open"))

    def test_states(self):
        for thing in NO_STATES:
            for function in [fewest, settings]:
                for branch in [WORK, listed(WORK), ("step", "open")]:
                    with self.assertRaises(BadState) as caught:
                        function(work(), branch, thing)
                    self.assertIs(caught.exception.state, thing)


class OtherWays(unittest.TestCase):
    def test_all_settings(self):
        """Compares with all settings of the tasks without parts, for small branches."""
        many = 0
        for number, book in enumerate(brute.small_books(120)):
            chance = random.Random(number)
            sizes = brute.least_sizes(book)
            for step in range(6):
                for name in [name for name in book.names if sizes[name]]:
                    branch = brute.random_branch(book, chance, name, chance.choice([1, 2, 3]), 4)
                    if len(brute.leaves_of(branch)) <= 6:
                        many += size(branch) > 3
                        with self.subTest([number, branch]):
                            self.compare(book, branch)
        self.assertGreater(many, 200)

    def compare(self, book, branch):
        least = {}
        for many, other in brute.settings_of(book, branch):
            state = state_of(book, other)
            least[state] = min(many, least.get(state, many))
        for state in book.states:
            self.assertEqual(fewest(book, branch, state), least.get(state))
            told = settings(book, branch, state)
            self.assertEqual(told is None, state not in least)
            if told is not None:
                self.assertEqual([shape(told), state_of(book, told)], [shape(branch), state])
                self.assertEqual(unlike_leaves(branch, told), least[state])


if __name__ == "__main__":
    unittest.main()
