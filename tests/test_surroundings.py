"""Surroundings, their tables, and papers (points 11 to 13)."""

import copy
import itertools
import random
import unittest

import brute
from helper import NOT_NAMES, Agreeing, barren, full, is_of_tuples, ladder, listed, nested, shared_size

from partstold.books import Book, Kind
from partstold.branches import state_of
from partstold.errors import BadBranch, UnknownKind
from partstold.known import levels, lights, ticks, votes, work
from partstold.possible import least, possible
from partstold.surroundings import filled, is_paper, paper, table_of, tables

AROUND = ("phase", (
    ("task", (("step", "stuck"), ("step", "done"))),
    ("task", (("task", "done"), ("task", ((), ("step", "open"))))),
    ("task", "done"),
))
UNKNOWN = [*NOT_NAMES, "steps", "open", nested(40, "step"), ("step",), work()]


def deep_surrounding(many):
    """Returns a surrounding of so many tasks, each the only part of the one above it."""
    thing = ()
    for step in range(many):
        thing = ("level", (thing,))
    return thing


class Filled(unittest.TestCase):
    def test_example(self):
        around = ("vote", ((), ("vote", "yes")))
        self.assertEqual(filled(around, ("vote", "no")), ("vote", (("vote", "no"), ("vote", "yes"))))

    def test_the_hole_alone(self):
        branch = ("task", (("step", "open"),))
        self.assertEqual(filled((), branch), branch)
        self.assertEqual(filled([], listed(branch)), branch)

    def test_the_other_parts_stay_in_their_order(self):
        expected = ("phase", (AROUND[1][0], ("task", (("task", "done"), ("task", (("step", "dropped"), ("step", "open"))))),
                              ("task", "done")))
        self.assertEqual(filled(AROUND, ("step", "dropped")), expected)
        self.assertEqual(filled(surrounding=listed(AROUND), branch=["step", "dropped"]), expected)

    def test_whichever_book(self):
        self.assertEqual(filled(("a", (("b", "c"), ())), ("d", (("e", "f"),))), ("a", (("b", "c"), ("d", (("e", "f"),)))))

    def test_a_branch_with_parts_and_lists(self):
        around, branch = listed(AROUND), ["task", [["step", "open"], ["task", [["step", "done"]]]]]
        before = copy.deepcopy((around, branch))
        told = filled(around, branch)
        self.assertEqual((around, branch), before)
        self.assertTrue(is_of_tuples(told))
        self.assertEqual(told[1][1][1][1][1][0], ("task", (("step", "open"), ("task", (("step", "done"),)))))

    def test_forty_deep(self):
        told = filled(deep_surrounding(39), ("level", "a"))
        self.assertEqual(state_of(levels(3), told), "abc"[39 % 3])


class Tables(unittest.TestCase):
    def test_example(self):
        self.assertEqual(table_of(votes(2), "vote", ("vote", ((), ("vote", "yes")))), ("no", "yes"))
        rows = [row for row, thing in tables(votes(2), "vote", "vote")]
        self.assertEqual(rows, [("no", "no"), ("no", "yes"), ("yes", "yes")])

    def test_the_hole_alone(self):
        self.assertEqual(table_of(work(), "task", ()), ("done", "dropped", "open", "stuck"))
        self.assertEqual(table_of(work(), "phase", []), ("alert", "done", "open"))
        self.assertEqual(table_of(barren(), "ka", ()), ())
        self.assertEqual(dict(tables(work(), "task", "task"))["done", "dropped", "open", "stuck"], ())

    def test_states_at_the_top(self):
        self.assertEqual(table_of(work(), "step", AROUND), ("open", "open", "open", "alert"))
        self.assertEqual(table_of(work(), "task", listed(AROUND)), ("open", "open", "open", "alert"))
        around = ("task", (("step", "dropped"), ()))
        self.assertEqual(table_of(work(), "step", around), ("done", "dropped", "open", "stuck"))
        self.assertEqual(table_of(surrounding=("phase", ((),)), hole="task", book=work()), ("done", "done", "open", "open"))

    def test_forty_deep(self):
        self.assertEqual(table_of(levels(3), "level", deep_surrounding(39)), ("a", "b", "c"))
        self.assertEqual(table_of(levels(3), "level", deep_surrounding(40)), ("b", "c", "a"))
        self.assertEqual(table_of(levels(3), "level", deep_surrounding(61)), ("b", "c", "a"))

    def test_one_hundred_and_fifty_tasks(self):
        around = ("vote", (("vote", "no"),) * 140 + (("vote", "yes"),) * 8 + ((),))
        self.assertEqual(table_of(votes(9), "vote", around), ("no", "yes"))

    def test_levels(self):
        """The tables turn the letters, or let a letter ahead of them hide them."""
        rows = tables(levels(3), "level", "level")
        self.assertEqual(dict(rows)["b", "c", "a"], ("level", ((),)))
        self.assertEqual(dict(rows)["c", "a", "b"], ("level", (("level", ((),)),)))
        self.assertEqual(shared_size(dict(rows)["a", "a", "a"]), 4)

    def test_the_kind_of_the_top(self):
        self.assertEqual(tables(work(), "phase", "task"), [])
        self.assertEqual(tables(work(), "step", "step"), [(("done", "dropped", "open", "stuck"), ())])
        self.assertEqual(tables(work(), "phase", "phase"), [(("alert", "done", "open"), ())])
        self.assertEqual(tables(top="step", hole="task", book=work()), [])

    def test_a_hole_of_a_kind_without_branches(self):
        book = barren()
        self.assertEqual(tables(book, "ka", "ka"), [((), ())])
        self.assertEqual(tables(book, "ka", "kb"), [((), ("kb", ((),)))])
        self.assertEqual(tables(book, "kb", "kd"), [((), ("kd", ((),)))])
        self.assertEqual(shared_size(tables(book, "kb", "kc")[0][1]), 2)
        self.assertEqual(tables(book, "kc", "ka"), [])
        self.assertEqual(table_of(book, "ka", ("kc", (("kc", "x"), ("ka", (("kb", ((),)),))))), ())

    def test_the_other_parts_of_a_hole_may_be_none(self):
        """A hole is the only part where nothing else may be one."""
        book = Book({"a": Kind([], ["b"], [("x", [(1, None, ["y"])])], "z"), "b": Kind([], ["a"], [], "y")})
        self.assertEqual(tables(book, "b", "a"), [((), ("a", ((),)))])

    def test_a_table_with_many_tasks(self):
        rows = dict(tables(ladder(), "kc", "kd"))
        sizes = {row: shared_size(thing) for row, thing in rows.items()}
        self.assertEqual(min(sizes.values()), 1)
        self.assertGreater(max(sizes.values()), 10 ** 9)

    def test_the_lists_are_new_and_the_surroundings_of_tuples(self):
        rows = tables(work(), "step", "phase")
        self.assertTrue(all(is_of_tuples(thing) for row, thing in rows))
        self.assertTrue(all(isinstance(row, tuple) and len(row) == 2 and isinstance(row[0], tuple) for row in rows))
        expected = list(rows)
        rows.clear()
        self.assertEqual([row for row, thing in tables(work(), "step", "phase")], [row for row, thing in expected])

    def test_what_is_passed_is_not_modified(self):
        around, book = listed(AROUND), work()
        table_of(book, "step", around)
        self.assertEqual([around, book], [listed(AROUND), work()])

    def test_unknown_kinds(self):
        for thing in UNKNOWN:
            if thing != "step":
                for call in [lambda: tables(work(), thing, "task"), lambda: tables(work(), "task", thing),
                             lambda: tables(work(), thing, "none"), lambda: table_of(work(), thing, None),
                             lambda: table_of(work(), thing, ()), lambda: paper(work(), thing),
                             lambda: is_paper(work(), thing, {})]:
                    with self.assertRaises(UnknownKind) as caught:
                        call()
                    self.assertIs(caught.exception.kind, thing)


class Wrong(unittest.TestCase):
    def wrong(self, path, book, hole, thing):
        with self.subTest(repr(thing)):
            with self.assertRaises(BadBranch) as caught:
                table_of(book, hole, thing)
            self.assertEqual(caught.exception.path, path)
            self.assertIs(type(caught.exception.path), tuple)

    def test_any_object(self):
        things = [*NOT_NAMES, "unit", ("unit",), ("unit", "red", "red"), [()], {}, set(), b"", range(0), {"unit": "red"},
                  ("unit", ()), ("unit", []), ["unit", []], ("unit", None), ("unit", {}), ((), "red"), ((), ((),)),
                  ("other", "red"), ("other", ((),)), ("unit", "blue"), (Agreeing(), ((),)), ("unit", {(): 1}),
                  (["unit"], ((),)), nested(40, ("unit", ((),))), lights(), nested(1, [])]
        for thing in things:
            self.wrong((), lights(), "unit", thing)
            self.wrong((1,), lights(), "unit", ("unit", ((), thing)))
            self.wrong((0,), lights(), "unit", ("unit", (thing, ())))
            self.wrong((0, 1), lights(), "unit", ["unit", [["unit", [["unit", "red"], thing, []]]]])

    def test_no_hole(self):
        self.wrong((), lights(), "unit", ("unit", "red"))
        self.wrong((), lights(), "unit", ("unit", (("unit", "red"), ("unit", (("unit", "green"),)))))
        self.wrong((), work(), "step", filled(AROUND, ("step", "open")))

    def test_a_second_hole(self):
        self.wrong((1,), lights(), "unit", ("unit", ((), ())))
        self.wrong((1,), lights(), "unit", ["unit", [[], [], []]])
        self.wrong((2, 0), lights(), "unit", ("unit", ((), ("unit", "red"), ("unit", ((), ("unit", "blue"))))))
        self.wrong((1,), lights(), "unit", ("unit", (("unit", ((),)), ())))

    def test_the_first_of_several_wrong_places(self):
        self.wrong((1,), lights(), "unit", ("unit", ((), ("unit", "blue"), ())))
        self.wrong((1,), lights(), "unit", ("unit", ((), (), ("unit", "blue"))))
        self.wrong((1, 0), lights(), "unit", ("unit", (("unit", "red"), ("unit", (("unit", "blue"),)), None)))
        self.wrong((0, 0), work(), "phase", ("phase", (("task", ((), None)), None)))
        self.wrong((), lights(), "unit", ("none", ((), ())))

    def test_a_hole_of_a_kind_that_cannot_stand_there(self):
        self.wrong((0,), work(), "step", ("phase", ((),)))
        self.wrong((0,), work(), "step", ("step", ((),)))
        self.wrong((1,), work(), "phase", ("phase", (("task", "done"), ())))
        self.wrong((1, 0), work(), "phase", ("phase", (("task", "done"), ("task", ((), ("step", "alert"))), ())))
        self.wrong((0,), work(), "phase", ("phase", ((), ())))

    def test_other_tasks_that_cannot_stand_there(self):
        self.wrong((1,), work(), "task", ("phase", ((), ("step", "open"))))
        self.wrong((0,), work(), "task", ("phase", (("task", "stuck"), ())))
        self.wrong((0,), work(), "task", ("phase", (("phase", ((),)),)))
        self.wrong((1,), barren(), "ka", ("kd", ((), ("kc", "x"))))
        self.wrong((1,), barren(), "ka", ("kd", ((), ("kb", "x"))))

    def test_each_place_of_a_surrounding(self):
        """The path leads to the task that was put out of order, wherever it is."""
        for path in [(), (0,), (0, 0), (0, 1), (1,), (1, 0), (1, 1), (1, 1, 1), (2,)]:
            around = listed(AROUND)
            task = around
            for index in path:
                task = task[1][index]
            task.append("more")
            self.wrong(path, work(), "step", around)

    def test_forty_deep(self):
        around, wrong = ("level", (("level", "a"), ())), ("level", (("level", "z"), ()))
        for step in range(38):
            around, wrong = [("level", (("level", "a"), thing)) for thing in [around, wrong]]
        self.assertEqual(table_of(levels(3), "level", around), ("b", "b", "b"))
        self.wrong((1,) * 38 + (0,), levels(3), "level", wrong)

    def test_one_hundred_and_fifty_tasks(self):
        self.wrong((148,), votes(2), "vote", ("vote", ((),) + (("vote", "no"),) * 147 + (("vote", "on"),)))
        self.wrong((), votes(2), "vote", ("vote", (("vote", "no"),) * 149))


class Papers(unittest.TestCase):
    def test_votes(self):
        told = paper(votes(2), "vote")
        self.assertEqual(told, {"vote": [("no", "no"), ("no", "yes"), ("yes", "yes")]})
        self.assertTrue(is_paper(votes(2), "vote", told))

    def test_work(self):
        told = paper(work(), "step")
        self.assertEqual(list(told), ["phase", "step", "task"])
        self.assertEqual(told["step"], [("done", "dropped", "open", "stuck")])
        self.assertEqual(told["task"], [row for row, thing in tables(work(), "step", "task")])
        self.assertEqual(paper(book=work(), hole="phase"), {"phase": [("alert", "done", "open")], "step": [], "task": []})

    def test_without_branches(self):
        self.assertEqual(paper(barren(), "kb"), {"ka": [()], "kb": [()], "kc": [()], "kd": [()]})
        self.assertTrue(is_paper(barren(), "kb", {"ka": [()], "kb": [()], "kc": [()], "kd": [()]}))
        self.assertFalse(is_paper(barren(), "kb", {"ka": [()], "kb": [()], "kc": [], "kd": [()]}))
        self.assertFalse(is_paper(barren(), "kb", {"ka": [()], "kb": [()], "kc": [("x",)], "kd": [()]}))

    def test_a_paper_with_more_than_the_tables(self):
        rows = list(itertools.product(["no", "yes"], repeat=2))
        self.assertTrue(is_paper(votes(2), "vote", {"vote": rows}))
        self.assertTrue(is_paper(votes(2), "vote", {"vote": [*rows, *rows]}))
        self.assertFalse(is_paper(votes(2), "vote", {"vote": rows[1:]}))
        self.assertFalse(is_paper(votes(2), "vote", {"vote": rows[:1]}))
        self.assertTrue(is_paper(votes(2), "vote", {"vote": rows[:2] + rows[3:]}))
        self.assertTrue(is_paper(book=votes(2), hole="vote", paper={"vote": [list(row) for row in rows]}))
        self.assertTrue(is_paper(votes(2), "vote", {"vote": tuple(rows)}))

    def test_more_rows_need_what_follows_from_them(self):
        """A row of states that are not possible for a kind is asked for what it makes, too."""
        book = Book({"a": Kind(["x"], ["b"], [("y", [(1, None, ["z"])])], "x"), "b": Kind(["x"], [], [], "z")})
        self.assertEqual(paper(book, "b"), {"a": [("x",)], "b": [("x",)]})
        self.assertFalse(is_paper(book, "b", {"a": [("x",)], "b": [("x",), ("z",)]}))
        self.assertTrue(is_paper(book, "b", {"a": [("x",), ("y",)], "b": [("x",), ("z",)]}))
        self.assertTrue(is_paper(book, "b", {"a": [("x",), ("z",)], "b": [("x",)]}))

    def test_only_possible_states_of_the_other_parts_count(self):
        book = Book({"a": Kind(["x"], ["a", "b"], [("y", [(1, None, ["y"])])], "x"), "b": Kind([], ["b"], [], "y")})
        self.assertEqual(paper(book, "a"), {"a": [("x",)], "b": []})
        self.assertTrue(is_paper(book, "a", {"a": [("x",)], "b": []}))

    def test_tuples_of_other_lengths(self):
        for row in [(), ("no",), ("no", "no", "no"), ("yes",) * 8]:
            self.assertFalse(is_paper(votes(2), "vote", {"vote": [("no", "no"), ("no", "yes"), ("yes", "yes"), row]}))
            self.assertFalse(is_paper(votes(2), "vote", {"vote": [row]}))
        self.assertFalse(is_paper(votes(2), "vote", {"vote": []}))
        told = paper(work(), "step")
        told["step"].append(("open",))
        self.assertFalse(is_paper(work(), "step", told))

    def test_each_row_of_a_least_paper_is_needed(self):
        for book in [work(), ticks(), lights(), levels(4), votes(3), barren()]:
            for hole in book.names:
                told = paper(book, hole)
                self.assertTrue(is_paper(book, hole, told))
                for name in book.names:
                    for index in range(len(told[name])):
                        less = {other: list(told[other]) for other in told}
                        del less[name][index]
                        self.assertFalse(is_paper(book, hole, less))

    def test_a_list_for_each_kind(self):
        told = paper(work(), "phase")
        self.assertTrue(is_paper(work(), "phase", told))
        del told["task"]
        self.assertFalse(is_paper(work(), "phase", told))

    def test_the_order_of_a_paper_makes_no_difference(self):
        told = paper(work(), "step")
        self.assertTrue(is_paper(work(), "step", {name: told[name][::-1] for name in list(told)[::-1]}))

    def test_the_dict_and_its_lists_are_new_and_nothing_is_modified(self):
        book = work()
        told = paper(book, "step")
        before = copy.deepcopy(told)
        is_paper(book, "step", told)
        self.assertEqual(told, before)
        told["task"].clear()
        del told["step"]
        self.assertEqual(paper(book, "step"), before)
        self.assertEqual(book, work())

    def test_the_greatest_numbers(self):
        for hole in full().names:
            told = paper(full(), hole)
            self.assertTrue(is_paper(full(), hole, told))
            for top in full().names:
                rows = tables(full(), hole, top)
                self.assertEqual([row for row, thing in rows], told[top])
                for row, thing in rows[::16]:
                    self.assertEqual(table_of(full(), hole, thing), row)


class OtherWays(unittest.TestCase):
    def test_all_surroundings_up_to_a_size(self):
        for number, book in enumerate(brute.small_books(60)):
            for hole in book.names:
                with self.subTest([number, hole]):
                    self.compare(book, hole, brute.surroundings(book, hole, 4))

    def compare(self, book, hole, found):
        """Compares what the package tells with all surroundings up to size 4, filled with least branches."""
        states = possible(book, hole)
        branches = [least(book, hole, state) for state in states]
        for top in book.names:
            sizes = {}
            for size, thing in found[top]:
                row = tuple(state_of(book, filled(thing, branch)) for branch in branches)
                self.assertEqual(table_of(book, hole, thing), row)
                sizes.setdefault(row, size)
            told = dict(tables(book, hole, top))
            self.assertLessEqual(set(sizes), set(told))
            for row, thing in told.items():
                self.assertEqual(table_of(book, hole, thing), row)
                self.assertTrue(thing == () and hole == top or thing[0] == top)
                if row in sizes or shared_size(thing) <= 4:
                    self.assertEqual(shared_size(thing), sizes.get(row))

    def test_rows_of_states_that_are_not_capped(self):
        for number, book in enumerate(brute.small_books(150)):
            for hole in book.names:
                with self.subTest([number, hole]):
                    sizes = brute.least_climbs(book, [(hole, possible(book, hole))])
                    expected = {name: sorted(row for top, row in sizes if top == name) for name in book.names}
                    self.assertEqual(paper(book, hole), expected)
                    for top in book.names:
                        told = tables(book, hole, top)
                        self.assertEqual([row for row, thing in told], expected[top])
                        self.assertEqual([shared_size(thing) for row, thing in told],
                                         [sizes[top, row] for row, thing in told])

    def test_papers_with_any_rows(self):
        """A paper with more rows, perhaps of states that are not possible, has what follows from them."""
        for seed in range(120):
            book = brute.random_book(seed)
            chance = random.Random(seed)
            hole = chance.choice(book.names)
            first = possible(book, hole)
            more = [(chance.choice(book.names), tuple(chance.choice(book.states) for state in first)) for step in range(2)]
            found = brute.least_climbs(book, [(hole, first), *more])
            told = {name: [row for top, row in found if top == name] for name in book.names}
            self.assertTrue(is_paper(book, hole, told))
            without = [place for place in found if place not in more and place != (hole, first)]
            for name, row in without[:5]:
                less = {top: [other for other in told[top] if (top, other) != (name, row)] for top in told}
                self.assertFalse(is_paper(book, hole, less))


if __name__ == "__main__":
    unittest.main()
