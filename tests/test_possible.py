"""What is possible, least, idle and unlike (points 8 to 10)."""

import itertools
import unittest

import brute
from helper import NOT_NAMES, Agreeing, barren, full, is_of_tuples, ladder, nested, shared_size

from partstold.books import Book, Kind
from partstold.branches import size, state_of
from partstold.errors import BadState, UnknownKind
from partstold.known import levels, lights, ticks, votes, work
from partstold.possible import idle, least, possible, unlike


def one_kind(hand, parts, clauses, last):
    """Returns a book of one kind, `a`."""
    return Book({"a": Kind(hand, parts, clauses, last)})


class Possible(unittest.TestCase):
    def test_example(self):
        self.assertEqual(possible(work(), "phase"), ("alert", "done", "open"))

    def test_known_books(self):
        self.assertEqual(possible(work(), "step"), ("done", "dropped", "open", "stuck"))
        self.assertEqual(possible(work(), "task"), ("done", "dropped", "open", "stuck"))
        self.assertEqual(possible(ticks(), "box"), ("off", "on", "part"))
        self.assertEqual(possible(lights(), "unit"), ("amber", "green", "red"))
        self.assertEqual(possible(votes(9), "vote"), ("no", "yes"))
        self.assertEqual(possible(levels(7), "level"), tuple("abcdefg"))

    def test_kinds_without_branches(self):
        book = barren()
        self.assertEqual([possible(book, name) for name in book.names], [(), (), ("x", "y", "z"), ()])
        self.assertEqual(possible(one_kind([], ["a"], [], "b"), "a"), ())

    def test_a_state_that_needs_a_branchless_kind_is_not_possible(self):
        book = Book({"a": Kind(["x"], ["a", "b"], [("z", [(1, None, ["y"])])], "x"), "b": Kind([], ["b"], [], "y")})
        self.assertEqual([possible(book, "a"), possible(book, "b")], [("x",), ()])
        self.assertIsNone(least(book, "a", "z"))

    def test_a_kind_without_hand_states(self):
        book = Book({"a": Kind([], ["b"], [("z", [(3, 3, ["x"])])], "y"), "b": Kind(["x"], [], [], "w")})
        self.assertEqual([possible(book, "a"), possible(book, "b")], [("y", "z"), ("x",)])

    def test_a_last_state_without_parts_is_not_possible(self):
        self.assertEqual(possible(one_kind(["x"], [], [("z", [])], "y"), "a"), ("x",))

    def test_parts_are_one_or_more(self):
        """No state is that of a task with no parts at all."""
        book = one_kind(["x"], ["a"], [("z", [(0, 0, ["x", "y", "z"])])], "y")
        self.assertEqual(possible(book, "a"), ("x", "y"))
        self.assertIsNone(least(book, "a", "z"))
        book = one_kind(["x"], ["a"], [("z", [(0, 0, ["x", "y"])])], "y")
        self.assertEqual(possible(book, "a"), ("x", "y"))

    def test_states_that_no_condition_names(self):
        book = one_kind(["x", "y"], ["a"], [("z", [(0, 0, ["x"])]), ("w", [(2, None, ["x"])])], "y")
        self.assertEqual(possible(book, "a"), ("w", "x", "y", "z"))
        self.assertEqual(least(book, "a", "z"), ("a", (("a", "y"),)))
        self.assertEqual(least(book, "a", "w"), ("a", (("a", "x"), ("a", "x"))))

    def test_unknown_kinds(self):
        for thing in [*NOT_NAMES, "steps", "open", nested(40, "step"), work()]:
            with self.assertRaises(UnknownKind) as caught:
                possible(work(), thing)
            self.assertIs(caught.exception.kind, thing)

    def test_arguments_by_name(self):
        self.assertEqual(possible(kind="vote", book=votes(1)), ("no", "yes"))


class Least(unittest.TestCase):
    def test_example(self):
        self.assertEqual(least(levels(3), "level", "c"), ("level", (("level", (("level", "a"),)),)))

    def test_known_books(self):
        self.assertEqual(least(work(), "step", "stuck"), ("step", "stuck"))
        self.assertEqual(least(work(), "task", "done"), ("task", "done"))
        self.assertEqual(least(work(), "task", "stuck"), ("task", (("step", "stuck"),)))
        self.assertEqual(size(least(work(), "phase", "alert")), 5)
        self.assertEqual(size(least(ticks(), "box", "part")), 3)
        self.assertEqual(least(votes(3), "vote", "no"), ("vote", "no"))
        self.assertEqual(size(least(levels(7), "level", "g")), 7)

    def test_not_possible(self):
        self.assertIsNone(least(work(), "phase", "stuck"))
        self.assertIsNone(least(work(), "step", "alert"))
        self.assertIsNone(least(barren(), "ka", "x"))
        self.assertIsNone(least(barren(), "kd", "z"))

    def test_the_least_of_several_kinds_of_parts(self):
        """A state of parts is taken from the kind that has it with the fewest tasks."""
        book = Book({"a": Kind([], ["b", "c"], [("top", [(2, None, ["x"])])], "none"),
                     "b": Kind(["y"], ["b"], [("x", [(2, None, ["y"])])], "y"),
                     "c": Kind(["w"], ["c"], [("x", [])], "y")})
        self.assertEqual(least(book, "a", "top"), ("a", (("c", (("c", "w"),)), ("c", (("c", "w"),)))))

    def test_an_uncounted_part_is_a_least_one(self):
        book = Book({"a": Kind([], ["b"], [("x", [(0, 0, ["u"])])], "y"), "b": Kind(["u"], ["b"], [], "v")})
        self.assertEqual(least(book, "a", "x"), ("a", (("b", (("b", "u"),)),)))
        self.assertEqual(least(book, "a", "y"), ("a", (("b", "u"),)))

    def test_more_than_a_most(self):
        leaf = Kind(["x"], [], [], "x")
        book = Book({"a": Kind([], ["b"], [("y", [(0, 3, ["x", "y"]), (1, 2, ["x"])])], "z"), "b": leaf})
        self.assertEqual(least(book, "a", "y"), ("a", (("b", "x"),)))
        self.assertEqual(least(book, "a", "z"), ("a", (("b", "x"),) * 3))
        book = Book({"a": Kind([], ["b"], [("y", [(0, 9, ["x"])])], "z"), "b": leaf})
        self.assertEqual(least(book, "a", "z"), ("a", (("b", "x"),) * 10))

    def test_many_parts_or_one_far_below(self):
        """The size counts all tasks, with parts or without, and whichever branch is found first."""
        chain = [("q", [(1, None, ["p"])]), ("p", [(1, None, ["x"])])]
        book = one_kind(["x"], ["a"], [("z", [(3, None, ["x"])]), ("z", [(1, None, ["r"])]), ("r", [(1, None, ["q"])]), *chain], "x")
        self.assertEqual(least(book, "a", "z"), ("a", (("a", "x"),) * 3))
        book = one_kind(["x"], ["a"], [("z", [(4, None, ["x"])]), ("z", [(1, None, ["q"])]), *chain], "x")
        self.assertEqual(least(book, "a", "z"), ("a", (("a", (("a", (("a", "x"),)),)),)))

    def test_many_tasks(self):
        branch = least(ladder(), "kd", "h")
        expected = 1
        for step in range(12):
            expected = 9 * expected + 1
        self.assertEqual(shared_size(branch), expected)

    def test_the_greatest_numbers(self):
        book = full()
        for name in book.names:
            for state in book.states:
                branch = least(book, name, state)
                self.assertEqual(branch is not None, state in possible(book, name))
                if branch is not None:
                    self.assertEqual([branch[0], state_of(book, branch)], [name, state])

    def test_wrong_things(self):
        with self.assertRaises(UnknownKind) as caught:
            least(work(), "open", "never")
        self.assertEqual(caught.exception.kind, "open")
        for thing in [*NOT_NAMES, "never", "vote", nested(40, "open"), ("open",), Agreeing()]:
            with self.assertRaises(UnknownKind) as caught:
                least(work(), thing, thing)
            self.assertIs(caught.exception.kind, thing)
            with self.assertRaises(BadState) as caught:
                least(work(), "phase", thing)
            self.assertIs(caught.exception.state, thing)

    def test_a_state_of_the_book_is_no_wrong_state_of_a_kind(self):
        self.assertIsNone(least(book=work(), kind="task", state="alert"))


class Idle(unittest.TestCase):
    def test_known_books(self):
        for book in [work(), ticks(), lights(), votes(1), votes(9), levels(2), levels(7)]:
            self.assertEqual(idle(book), [])

    def test_clauses_that_never_fit(self):
        clauses = [("x", [(2, 1, ["x"])]), ("x", [(1, None, ["x"]), (0, 0, ["x", "y"])]), ("y", [(3, None, ["x"])])]
        self.assertEqual(idle(one_kind(["x"], ["a"], clauses, "x")), [("a", 0), ("a", 1)])

    def test_what_stands_behind_a_clause_without_conditions(self):
        clauses = [("x", [(2, None, ["x"])]), ("y", []), ("x", [(1, None, ["y"])])]
        self.assertEqual(idle(one_kind(["x"], ["a"], clauses, "z")), [("a", 2), ("a", 3)])

    def test_a_clause_for_a_task_without_parts(self):
        self.assertEqual(idle(one_kind(["x"], ["a"], [("x", [(0, 0, ["x"])])], "x")), [("a", 0)])

    def test_a_clause_with_a_state_that_is_not_possible(self):
        clauses = [("x", [(1, None, ["z"])]), ("x", [(0, 0, ["z"])])]
        self.assertEqual(idle(one_kind(["x"], ["a"], clauses, "z")), [("a", 0), ("a", 2)])

    def test_a_last_state_alone(self):
        self.assertEqual(idle(one_kind(["x"], ["a"], [], "y")), [])
        self.assertEqual(idle(one_kind(["x"], [], [], "y")), [])
        self.assertEqual(idle(one_kind(["x"], [], [("y", [(3, 2, ["x"])])], "y")), [])
        self.assertEqual(idle(one_kind([], ["a"], [], "y")), [("a", 0)])

    def test_kinds_without_branches(self):
        expected = [("ka", 0), ("ka", 1), ("ka", 2), ("kb", 0), ("kc", 2), ("kd", 0), ("kd", 1), ("kd", 2)]
        self.assertEqual(idle(barren()), expected)

    def test_the_list_is_new(self):
        book = barren()
        told = idle(book)
        told.clear()
        self.assertEqual(len(idle(book=book)), 8)
        self.assertEqual(book, barren())


class Unlike(unittest.TestCase):
    def check(self, one, other, expected):
        """Checks both orders of two books, for a size."""
        for first, second in [(one, other), (other, one)]:
            branch = unlike(first, second)
            self.assertEqual(size(branch), expected)
            self.assertNotEqual(state_of(first, branch), state_of(second, branch))
            self.assertTrue(is_of_tuples(branch))

    def same(self, one, other):
        self.assertIsNone(unlike(one, other))
        self.assertIsNone(unlike(other, one))

    def test_a_book_and_itself(self):
        for book in [work(), ticks(), lights(), votes(9), levels(7), barren(), full()]:
            self.same(book, book)

    def test_known_books(self):
        self.assertEqual(unlike(votes(1), votes(2)), ("vote", (("vote", "yes"),)))
        self.assertEqual(unlike(votes(2), votes(9)), ("vote", (("vote", "yes"), ("vote", "yes"))))
        self.check(levels(4), levels(6), 5)
        self.check(levels(6), levels(7), 7)

    def test_books_that_share_nothing(self):
        self.same(votes(2), work())
        red, blue = one_kind(["red"], ["a"], [], "x"), one_kind(["blue"], ["a"], [], "y")
        self.same(red, blue)
        self.same(one_kind(["red"], ["a"], [], "x"), one_kind(["red"], [], [], "y"))
        self.same(barren(), Book({"ka": Kind([], ["kb"], [], "one"), "kb": Kind(["two"], ["ka"], [], "two")}))
        one = Book({"a": Kind(["x"], ["b"], [], "y"), "b": Kind(["x"], [], [], "x")})
        self.same(one, Book({"a": Kind(["x"], ["c"], [], "z"), "c": Kind(["x"], [], [], "x")}))

    def test_what_is_not_in_both_makes_no_difference(self):
        """The books tell unlike states only of parts that one of them does not allow."""
        one = one_kind(["x", "y"], ["a"], [("z", [(1, None, ["y"])])], "x")
        self.same(one, one_kind(["x"], ["a"], [], "x"))
        self.check(one, one_kind(["x", "y"], ["a"], [], "x"), 2)

    def test_equal_states_by_other_clauses(self):
        one = one_kind(["x", "y"], ["a"], [("x", [(1, None, ["x"])])], "y")
        other = one_kind(["x", "y"], ["a"], [("y", [(0, 0, ["x"])]), ("z", [(3, 2, ["x"])])], "x")
        self.same(one, other)

    def test_a_part_that_no_condition_counts(self):
        self.check(one_kind(["x"], ["a"], [], "y"), one_kind(["x"], ["a"], [], "z"), 2)

    def test_the_caps_of_both_count(self):
        one = one_kind(["x"], ["a"], [("y", [(3, None, ["x"])])], "x")
        self.check(one, one_kind(["x"], ["a"], [("y", [(5, None, ["x"])])], "x"), 4)
        self.check(one, one_kind(["x"], ["a"], [("y", [(3, 7, ["x"])])], "x"), 9)

    def test_unlike_states_of_a_part_do_not_count_as_one(self):
        """The task above two unlike parts is never a least one, though it may be like again."""
        one = one_kind(["x"], ["a"], [("y", [(1, None, ["x"])])], "x")
        other = one_kind(["x"], ["a"], [("z", [(1, None, ["x"])])], "x")
        self.assertEqual(unlike(one, other), ("a", (("a", "x"),)))

    def test_books_with_many_tasks_in_common(self):
        one = ladder()
        kinds = {name: one.kind_named(name) for name in one.names}
        last = kinds["kd"]
        kinds["kd"] = Kind(last.hand, last.parts, [("e", last.clauses[0][1]), *last.clauses[1:]], last.last)
        expected = shared_size(least(one, "kd", "h"))
        self.assertEqual(shared_size(unlike(one, Book(kinds))), expected)

    def test_arguments_by_name(self):
        self.assertIsNone(unlike(other=votes(1), one=votes(1)))


class OtherWays(unittest.TestCase):
    def test_all_branches_up_to_a_size(self):
        for number, book in enumerate(brute.small_books(60)):
            with self.subTest(number):
                self.compare(book, brute.branches(book, 5))

    def compare(self, book, found):
        """Compares what the package tells with all branches up to size 5."""
        counting = set()
        for name in book.names:
            sizes = {}
            for own, branch in found[name]:
                sizes.setdefault(state_of(book, branch), own)
                counting |= brute.counting_in(book, branch)
            self.assertLessEqual(set(sizes), set(possible(book, name)))
            for state in book.states:
                branch = least(book, name, state)
                if state in sizes or (branch and size(branch) <= 5):
                    self.assertEqual(size(branch), sizes.get(state))
                if branch:
                    self.assertEqual([branch[0], state_of(book, branch)], [name, state])
                    self.assertTrue(is_of_tuples(branch))
        self.assertFalse(counting & set(idle(book)))

    def test_rows_of_states_that_are_not_capped(self):
        for number, book in enumerate(brute.small_books(250)):
            with self.subTest(number):
                sizes = brute.least_sizes(book)
                idle_pairs = []
                for name in book.names:
                    kind = book.kind_named(name)
                    self.assertEqual(possible(book, name), tuple(sorted(sizes[name])))
                    for state in book.states:
                        branch = least(book, name, state)
                        self.assertEqual(size(branch) if branch else None, sizes[name].get(state))
                    counting = {kind.counting(row) for row, own in brute.part_rows(book, name, sizes) if row}
                    if kind.parts:
                        indexes = range(len(kind.clauses) + 1)
                        idle_pairs += [(name, index) for index in indexes if index not in counting]
                self.assertEqual(idle(book), idle_pairs)

    def test_unlike_states_of_all_branches_up_to_a_size(self):
        for seed in range(150):
            one = brute.random_book(seed, kinds=2)
            other = brute.changed_book(one, seed)
            self.compare_unlike(one, other)
            self.compare_unlike(other, brute.changed_book(one, seed + 1000))
            self.compare_unlike(one, brute.random_book(seed + 5000))

    def compare_unlike(self, one, other):
        """Compares with all branches of both up to size 4, and with pairs of states that are not capped."""
        own, their = brute.branches(one, 4), brute.branches(other, 4)
        names = [name for name in one.names if name in other.names]
        shared = [row for name in names for row in own[name] if row in their[name]]
        sizes = [many for many, branch in shared if state_of(one, branch) != state_of(other, branch)]
        pairs = brute.least_pairs(one, other)
        least_size = min([many for row in pairs.values() for pair, many in row.items() if pair[0] != pair[1]], default=None)
        branch = unlike(one, other)
        self.assertEqual(size(branch) if branch else None, least_size)
        if sizes or (branch and size(branch) <= 4):
            self.assertEqual(size(branch), min(sizes, default=None))
        if branch:
            self.assertNotEqual(state_of(one, branch), state_of(other, branch))

    def test_votes_and_levels(self):
        for first, second in itertools.permutations(range(1, 10), 2):
            self.assertEqual(size(unlike(votes(first), votes(second))), min(first, second) + 1)
        for first, second in itertools.permutations(range(2, 8), 2):
            self.assertEqual(size(unlike(levels(first), levels(second))), min(first, second) + 1)


if __name__ == "__main__":
    unittest.main()
