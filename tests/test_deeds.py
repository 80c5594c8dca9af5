"""What a part makes above it (points 14 and 15)."""

import itertools
import unittest

import brute
from helper import NOT_NAMES, Agreeing, barren, full, is_of_tuples, ladder, nested, shared_size

from partstold.books import Book, Kind
from partstold.branches import state_of
from partstold.deeds import added, carried, carrier, struck
from partstold.errors import BadState, UnknownKind
from partstold.known import levels, lights, ticks, votes, work
from partstold.possible import least, possible
from partstold.surroundings import table_of

UNKNOWN = [*NOT_NAMES, "steps", "open", nested(40, "step"), ("step",), Agreeing(), work()]
NO_STATES = [*NOT_NAMES, "never", "step", nested(40, "open"), ("open",), Agreeing()]


class Carried(unittest.TestCase):
    def test_example(self):
        self.assertEqual(carried(votes(2), "vote", "vote", "no", "yes"), [("no", "no"), ("no", "yes"), ("yes", "yes")])

    def test_the_pair_itself_by_the_hole_alone(self):
        self.assertEqual(carried(work(), "step", "step", "open", "stuck"), [("open", "stuck")])
        self.assertEqual(carried(work(), "phase", "phase", "alert", "done"), [("alert", "done")])

    def test_known_books(self):
        self.assertEqual(carried(work(), "task", "phase", "open", "stuck"), [("alert", "alert"), ("open", "alert"), ("open", "open")])
        self.assertEqual(carried(work(), "step", "task", "done", "dropped"), [
            ("done", "done"), ("done", "dropped"), ("open", "open"), ("stuck", "stuck")])
        self.assertEqual(carried(lights(), "unit", "unit", "green", "amber"), [
            ("amber", "amber"), ("green", "amber"), ("red", "red")])
        self.assertEqual(carried(ticks(), "box", "box", "off", "on"), [("off", "on"), ("off", "part"), ("part", "on"), ("part", "part")])

    def test_both_equal(self):
        self.assertEqual(carried(votes(1), "vote", "vote", "no", "no"), [("no", "no"), ("yes", "yes")])
        self.assertEqual(carried(work(), "step", "phase", "stuck", "stuck"), [("alert", "alert"), ("open", "open")])

    def test_no_surrounding(self):
        self.assertEqual(carried(work(), "phase", "task", "done", "open"), [])
        self.assertEqual(carried(barren(), "kc", "ka", "x", "y"), [])
        self.assertIsNone(carrier(work(), "phase", "task", "done", "open", "done", "open"))

    def test_more_than_a_thousand_tables(self):
        """The pairs are few, however many tables there are."""
        book = turning()
        everything = list(itertools.product("pqrstu", repeat=2))
        for kind, top in itertools.product(book.names, ["ka", "kb"]):
            self.assertEqual(carried(book, kind, top, "p", "t"), everything)
            self.assertEqual(added(book, kind, top), everything)
            self.assertEqual(struck(book, kind, top), everything)
        for pair in everything:
            row = table_of(book, "ka", carrier(book, "ka", "kb", "p", "t", *pair))
            self.assertEqual((row[0], row[4]), pair)

    def test_the_list_is_new(self):
        told = carried(votes(2), "vote", "vote", "no", "yes")
        told.clear()
        self.assertEqual(len(carried(votes(2), "vote", "vote", "no", "yes")), 3)

    def test_arguments_by_name(self):
        self.assertEqual(carried(new="no", old="no", top="vote", hole="vote", book=votes(9)), [("no", "no"), ("yes", "yes")])


def turning():
    """Returns a book with some tens of thousands of tables for each kind of the hole.

    Six states are turned in a ring by a `ka`, two of them change places by a `kb`, and become one by a `kc`.
    """
    def moving(states, behind):
        clauses = [(state, [(1, None, [own])]) for own, state in zip(states, behind)]
        return Kind(list(states), ["ka", "kb", "kc"], clauses[:-1], behind[-1])

    return Book({"ka": moving("pqrstu", "qrstup"), "kb": moving("pqrstu", "qprstu"), "kc": moving("pqrstu", "pprstu")})


class Carrier(unittest.TestCase):
    def test_example(self):
        self.assertIsNone(carrier(votes(2), "vote", "vote", "no", "yes", "yes", "no"))

    def test_the_hole_alone(self):
        self.assertEqual(carrier(work(), "task", "task", "done", "stuck", "done", "stuck"), ())
        self.assertEqual(carrier(votes(2), "vote", "vote", "no", "yes", "no", "yes"), ())

    def test_least_surroundings(self):
        self.assertEqual(carrier(levels(3), "level", "level", "a", "b", "b", "c"), ("level", ((),)))
        self.assertEqual(carrier(levels(3), "level", "level", "a", "b", "c", "a"), ("level", (("level", ((),)),)))
        thing = carrier(work(), "step", "phase", "open", "stuck", "open", "alert")
        self.assertEqual([shared_size(thing), table_of(work(), "step", thing)], [4, ("open", "open", "open", "alert")])
        self.assertTrue(is_of_tuples(thing))

    def test_what_are_no_states(self):
        for thing in NO_STATES:
            self.assertIsNone(carrier(votes(2), "vote", "vote", "no", "yes", thing, "yes"))
            self.assertIsNone(carrier(votes(2), "vote", "vote", "no", "yes", "no", thing))
            self.assertIsNone(carrier(book=votes(2), hole="vote", top="vote", old="no", new="yes", before=thing, behind=thing))

    def test_states_that_the_top_cannot_have(self):
        self.assertIsNone(carrier(work(), "step", "phase", "open", "stuck", "open", "stuck"))
        self.assertIsNone(carrier(work(), "step", "phase", "open", "stuck", "dropped", "alert"))

    def test_many_tasks(self):
        """A least branch with `h`, of which a `ka` with `b` is taken out, which has ten tasks."""
        book = ladder()
        thing = carrier(book, "ka", "kd", "a", "b", "a", "h")
        self.assertEqual(shared_size(thing), shared_size(least(book, "kd", "h")) - 10)
        self.assertEqual(table_of(book, "ka", carrier(book, "ka", "kb", "a", "d", "a", "e"))[::3], ("a", "e"))


class WrongForBoth(unittest.TestCase):
    """What both carried and carrier raise, and in which order."""

    def wrong(self, error, thing, book, *arguments):
        for call in [lambda: carried(book, *arguments), lambda: carrier(book, *arguments, "never", None)]:
            with self.subTest(arguments):
                with self.assertRaises(error) as caught:
                    call()
                self.assertIs(caught.exception.kind if error == UnknownKind else caught.exception.state, thing)

    def test_unknown_kinds(self):
        for thing in UNKNOWN:
            self.wrong(UnknownKind, thing, work(), thing, "task", "open", "open")
            self.wrong(UnknownKind, thing, work(), "task", thing, "open", "open")
            self.wrong(UnknownKind, thing, work(), thing, None, None, None)
            self.wrong(UnknownKind, thing, work(), "task", thing, None, None)

    def test_states_that_are_not_possible(self):
        for thing in NO_STATES:
            self.wrong(BadState, thing, work(), "task", "phase", thing, "open")
            self.wrong(BadState, thing, work(), "task", "phase", "open", thing)
            self.wrong(BadState, thing, work(), "task", "phase", thing, "never")
        self.wrong(BadState, "alert", work(), "task", "phase", "alert", "never")
        self.wrong(BadState, "alert", work(), "step", "step", "open", "alert")
        self.wrong(BadState, "stuck", work(), "phase", "step", "stuck", "dropped")

    def test_a_kind_without_branches(self):
        self.wrong(BadState, "x", barren(), "ka", "kd", "x", "y")
        self.wrong(BadState, "y", barren(), "kd", "kd", "y", "x")


class Added(unittest.TestCase):
    def test_example(self):
        expected = [("no", "no"), ("no", "yes"), ("yes", "no"), ("yes", "yes")]
        self.assertEqual(added(votes(2), "vote", "vote"), expected)

    def test_a_first_part_takes_the_place_of_any_hand_state(self):
        book = Book({"a": Kind(["x", "y"], ["b"], [], "z"), "b": Kind(["w"], [], [], "w")})
        self.assertEqual(added(book, "a", "a"), [("x", "z"), ("y", "z"), ("z", "z")])

    def test_only_tasks_without_parts_are_added(self):
        """The state of a task with parts is none that is added."""
        book = Book({"a": Kind(["x"], ["b"], [("y", [(1, None, ["v"])])], "x"), "b": Kind(["w"], ["b"], [], "v")})
        self.assertEqual(added(book, "a", "a"), [("x", "x"), ("y", "y")])
        self.assertEqual(struck(book, "a", "a"), [("x", "x"), ("y", "x"), ("y", "y")])

    def test_kinds_without_parts(self):
        self.assertEqual(added(work(), "step", "step"), [])
        self.assertEqual(added(work(), "step", "phase"), [])
        self.assertEqual(struck(work(), "step", "phase"), [])

    def test_a_kind_without_hand_states_has_no_first_part_added(self):
        self.assertEqual(added(work(), "phase", "phase"), [
            ("alert", "alert"), ("done", "done"), ("done", "open"), ("open", "open")])

    def test_what_cannot_be_added(self):
        """All parts of a `b` have parts of their own, so that none of them is a task without parts."""
        book = Book({"a": Kind(["x"], [], [], "x"), "b": Kind([], ["c"], [("y", [(2, None, ["z"])])], "x"), "c": Kind([], ["a"], [], "z")})
        self.assertEqual(added(book, "b", "b"), [])
        self.assertEqual(struck(book, "b", "b"), [("y", "x"), ("y", "y")])

    def test_tasks_far_below(self):
        self.assertEqual(added(work(), "task", "phase"), [
            ("alert", "alert"), ("done", "done"), ("done", "open"), ("open", "alert"), ("open", "done"), ("open", "open")])
        self.assertEqual(added(work(), "phase", "task"), [])

    def test_without_branches(self):
        for kind, top in itertools.product(["ka", "kb", "kd"], barren().names):
            self.assertEqual(added(barren(), kind, top), [])
            self.assertEqual(struck(barren(), kind, top), [])
        self.assertEqual(added(barren(), "kc", "kd"), [])
        self.assertEqual(added(barren(), "kc", "kc"), [("x", "x"), ("x", "z"), ("y", "x"), ("y", "z"), ("z", "x"), ("z", "z")])

    def test_parts_that_no_condition_counts(self):
        book = Book({"a": Kind(["x"], ["a"], [], "z")})
        self.assertEqual(added(book, "a", "a"), [("x", "z"), ("z", "z")])
        self.assertEqual(struck(book, "a", "a"), [("z", "z")])

    def test_unknown_kinds(self):
        for thing in UNKNOWN:
            for function in [added, struck]:
                for arguments in [(thing, "task"), ("task", thing), (thing, None)]:
                    with self.assertRaises(UnknownKind) as caught:
                        function(work(), *arguments)
                    self.assertIs(caught.exception.kind, thing)

    def test_the_list_is_new(self):
        for function in [added, struck]:
            book = votes(2)
            told = function(book, "vote", "vote")
            expected = list(told)
            told.clear()
            self.assertEqual(function(book, "vote", "vote"), expected)
            self.assertEqual(book, votes(2))

    def test_arguments_by_name(self):
        self.assertEqual(len(added(top="vote", kind="vote", book=votes(2))), 4)
        self.assertEqual(len(struck(top="vote", kind="vote", book=votes(2))), 3)

    def test_the_greatest_numbers(self):
        for kind, top in itertools.product(full().names, repeat=2):
            self.assertLessEqual(set(struck(full(), kind, top)), set(itertools.product(full().states, repeat=2)))
            self.assertTrue(added(full(), kind, top))


class Struck(unittest.TestCase):
    def test_example(self):
        self.assertEqual(struck(votes(2), "vote", "vote"), [("no", "no"), ("yes", "no"), ("yes", "yes")])

    def test_the_last_part_is_not_struck(self):
        """With one part a task is `y`, and no other one is; so it never comes of striking its only part."""
        book = Book({"a": Kind(["x"], ["b"], [("y", [(1, 1, ["w"])])], "z"), "b": Kind(["w"], [], [], "w")})
        self.assertEqual(struck(book, "a", "a"), [("z", "y"), ("z", "z")])

    def test_parts_with_parts_are_struck_too(self):
        self.assertEqual(struck(work(), "task", "task"), [
            ("done", "done"), ("done", "dropped"), ("dropped", "dropped"), ("open", "done"), ("open", "dropped"),
            ("open", "open"), ("stuck", "done"), ("stuck", "dropped"), ("stuck", "open"), ("stuck", "stuck")])

    def test_a_number_is_told_from_all_greater_ones(self):
        book = Book({"a": Kind([], ["b"], [("y", [(4, 5, ["w"])])], "z"), "b": Kind(["w"], [], [], "w")})
        self.assertEqual(struck(book, "a", "a"), [("y", "y"), ("y", "z"), ("z", "y"), ("z", "z")])
        self.assertEqual(added(book, "a", "a"), [("y", "y"), ("y", "z"), ("z", "y"), ("z", "z")])
        book = Book({"a": Kind([], ["b"], [("y", [(4, None, ["w"])])], "z"), "b": Kind(["w"], [], [], "w")})
        self.assertEqual(struck(book, "a", "a"), [("y", "y"), ("y", "z"), ("z", "z")])
        self.assertEqual(added(book, "a", "a"), [("y", "y"), ("z", "y"), ("z", "z")])


def with_part(thing, name, path, part):
    """Returns a branch in which the task of a kind at a path has one more part, None if it is of another kind."""
    kind, rest = thing
    if path:
        parts = list(rest)
        parts[path[0]] = with_part(parts[path[0]], name, path[1:], part)
        return (kind, tuple(parts)) if parts[path[0]] else None
    return (kind, (part,) if isinstance(rest, str) else (*rest, part)) if kind == name else None


def paths(thing):
    """Yields the paths to all tasks of a branch."""
    yield ()
    for index, part in enumerate([] if isinstance(thing[1], str) else thing[1]):
        for path in paths(part):
            yield (index, *path)


def task_at(thing, path):
    """Returns the task at a path of a branch, with everything below it."""
    for index in path:
        thing = thing[1][index]
    return thing


class OtherWays(unittest.TestCase):
    def test_all_surroundings_up_to_a_size(self):
        for number, book in enumerate(brute.small_books(25)):
            for hole in book.names:
                found = brute.surroundings(book, hole, 3)
                for old, new in itertools.product(possible(book, hole), repeat=2):
                    with self.subTest([number, hole, old, new]):
                        self.compare(book, hole, old, new, found)

    def compare(self, book, hole, old, new, found):
        """Compares what the package tells with all surroundings up to size 3."""
        states = possible(book, hole)
        for top in book.names:
            sizes = {}
            for size, thing in found[top]:
                row = dict(zip(states, table_of(book, hole, thing)))
                sizes.setdefault((row[old], row[new]), size)
            told = carried(book, hole, top, old, new)
            self.assertLessEqual(set(sizes), set(told))
            for pair in itertools.product(book.states, repeat=2):
                thing = carrier(book, hole, top, old, new, *pair)
                self.assertEqual(thing is not None, pair in told)
                if pair in sizes or (pair in told and shared_size(thing) <= 3):
                    self.assertEqual(shared_size(thing), sizes.get(pair))

    def test_rows_of_states_that_are_not_capped(self):
        for number, book in enumerate(brute.small_books(80)):
            for hole in book.names:
                for old, new in itertools.permutations(possible(book, hole), 2):
                    with self.subTest([number, hole, old, new]):
                        sizes = brute.least_climbs(book, [(hole, (old, new))])
                        self.compare_climbs(book, hole, old, new, sizes)

    def compare_climbs(self, book, hole, old, new, sizes):
        """Compares what the package tells with the sizes of surroundings that were found in another way."""
        states = possible(book, hole)
        for top in book.names:
            told = carried(book, hole, top, old, new)
            self.assertEqual(told, sorted(row for name, row in sizes if name == top))
            for pair in told:
                thing = carrier(book, hole, top, old, new, *pair)
                row = dict(zip(states, table_of(book, hole, thing)))
                self.assertEqual((row[old], row[new]), pair)
                self.assertEqual(shared_size(thing), sizes[top, pair])

    def test_deeds_in_all_branches_up_to_a_size(self):
        for number, book in enumerate(brute.small_books(40)):
            found = brute.branches(book, 5)
            for kind, top in itertools.product(book.names, repeat=2):
                with self.subTest([number, kind, top]):
                    pairs = self.pairs_of_added(book, kind, [branch for size, branch in found[top] if size <= 4])
                    self.assertLessEqual(pairs, set(added(book, kind, top)))
                    pairs = self.pairs_of_struck(book, kind, [branch for size, branch in found[top]])
                    self.assertLessEqual(pairs, set(struck(book, kind, top)))

    def pairs_of_added(self, book, kind, branches):
        """Returns the pairs of all these branches if any task without parts is added to any task of a kind."""
        own = book.kind_named(kind)
        parts = [(name, state) for name in own.parts for state in book.kind_named(name).hand]
        changed = [(branch, with_part(branch, kind, path, part))
                   for branch in branches for path in paths(branch) for part in parts]
        return {(state_of(book, old), state_of(book, new)) for old, new in changed if new}

    def pairs_of_struck(self, book, kind, branches):
        """Returns the pairs of all these branches if any part of any task of a kind, but not its last one, is struck."""
        pairs = set()
        for branch in branches:
            for path in paths(branch):
                name, rest = task_at(branch, path)
                if name == kind and not isinstance(rest, str) and len(rest) > 1:
                    for index in range(len(rest)):
                        less = replaced(branch, path, (name, rest[:index] + rest[index + 1:]))
                        pairs.add((state_of(book, branch), state_of(book, less)))
        return pairs

    def test_deeds_by_rows_of_states_that_are_not_capped(self):
        for number, book in enumerate(brute.small_books(150)):
            sizes = brute.least_sizes(book)
            for name in book.names:
                kind = book.kind_named(name)
                rows = [row for row, size in brute.part_rows(book, name, sizes) if row]
                hand = {state for part in kind.parts for state in book.kind_named(part).hand}
                pairs = {(name, (old, kind.told([new]))) for old in kind.hand for new in hand}
                pairs |= {(name, (kind.told(row), kind.told([*row, new]))) for row in rows for new in hand}
                states = {state for part in kind.parts for state in sizes[part]}
                less = {(name, (kind.told([*row, old]), kind.told(row))) for row in rows for old in states}
                with self.subTest([number, name]):
                    self.compare_deeds(book, name, added, brute.least_climbs(book, sorted(pairs)))
                    self.compare_deeds(book, name, struck, brute.least_climbs(book, sorted(less)))

    def compare_deeds(self, book, kind, function, found):
        """Compares what a function tells, for all kinds of the top task, with what was found in another way."""
        for top in book.names:
            self.assertEqual(function(book, kind, top), sorted(row for name, row in found if name == top))


def replaced(thing, path, task):
    """Returns a branch with another task at a path."""
    if not path:
        return task
    kind, rest = thing
    parts = list(rest)
    parts[path[0]] = replaced(parts[path[0]], path[1:], task)
    return kind, tuple(parts)


if __name__ == "__main__":
    unittest.main()
