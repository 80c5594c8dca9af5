"""Kinds of tasks: conditions, clauses, what counts, and what is no kind (points 1 to 4)."""

import copy
import itertools
import unittest

from helper import NOT_DIGITS, NOT_LISTS, NOT_NAMES, nested

from partstold.books import Kind
from partstold.errors import BadKind

CLAUSE = ("done", ((0, 0, ("open",)),))


def some(condition):
    """Returns a kind whose clause has one condition."""
    return Kind([], ["a"], [("yes", [condition])], "no")


class Properties(unittest.TestCase):
    def test_ordinary(self):
        clauses = [["late", []], ("done", [[0, 0, ["open", "late"]], (1, None, ["done"])])]
        kind = Kind(["open", "done"], ["task", "step"], clauses, "open")
        self.assertEqual(kind.hand, ("done", "open"))
        self.assertEqual(kind.parts, ("step", "task"))
        expected = (("late", ()), ("done", ((0, 0, ("late", "open")), (1, None, ("done",)))))
        self.assertEqual(kind.clauses, expected)
        self.assertEqual(kind.last, "open")

    def test_all_is_tuples(self):
        kind = Kind(["b"], ["c"], [["late", [[0, 0, ["open"]]]]], "open")
        for thing in [kind.hand, kind.parts, kind.clauses, kind.clauses[0], kind.clauses[0][1],
                      kind.clauses[0][1][0], kind.clauses[0][1][0][2]]:
            self.assertIs(type(thing), tuple)

    def test_order_of_clauses_and_conditions_stays(self):
        clauses = (("z", ((2, None, ("b",)), (1, 9, ("a",)))), ("a", ((0, 0, ("c",)),)), ("z", ()))
        self.assertEqual(Kind([], ["a"], clauses, "a").clauses, clauses)

    def test_without_hand_states_or_parts(self):
        self.assertEqual(Kind([], ["a"], [], "x").hand, ())
        self.assertEqual(Kind(["x"], [], [], "x").parts, ())
        self.assertEqual(Kind((), ("a",), (), "x").clauses, ())

    def test_arguments_by_name(self):
        kind = Kind(last="z", clauses=[CLAUSE], parts=["b"], hand=["a"])
        self.assertEqual([kind.hand, kind.parts, kind.clauses, kind.last], [("a",), ("b",), (CLAUSE,), "z"])
        self.assertEqual(kind.told(states=["open"]), "z")
        self.assertEqual(kind.counting(states=["open"]), 1)

    def test_immutable(self):
        kind = Kind(["a"], ["b"], [CLAUSE], "z")
        for name in ["hand", "parts", "clauses", "last"]:
            with self.subTest(name):
                with self.assertRaises(AttributeError):
                    setattr(kind, name, ())

    def test_what_is_passed_is_copied(self):
        hand, parts, names = ["b", "a"], ["d", "c"], ["y", "x"]
        clauses = [["late", [[1, None, names]]]]
        kind = Kind(hand, parts, clauses, "z")
        hand.append("e")
        parts.clear()
        names.append("w")
        clauses[0][1][0][0] = 5
        clauses[0][1].append([0, 0, ["v"]])
        clauses.append(["more", []])
        self.assertEqual([kind.hand, kind.parts], [("a", "b"), ("c", "d")])
        self.assertEqual(kind.clauses, (("late", ((1, None, ("x", "y")),)),))
        self.assertEqual(kind.told(["x"]), "late")

    def test_what_is_passed_is_not_modified(self):
        arguments = [["b", "a"], ["d", "c"], [["late", [[1, None, ["y", "x"]]]]], "z"]
        before = copy.deepcopy(arguments)
        kind = Kind(*arguments)
        self.assertEqual(arguments, before)
        states = ["y", "x"]
        kind.told(states)
        kind.counting(states)
        self.assertEqual(states, ["y", "x"])


class Equality(unittest.TestCase):
    def test_equal(self):
        one = Kind(["a", "b"], ["c", "d"], [("e", [(0, None, ["f", "g"])])], "h")
        other = Kind(("b", "a"), ("d", "c"), (["e", ([0, None, ("g", "f")],)],), "h")
        self.assertTrue(one == other)
        self.assertFalse(one != other)

    def test_unequal(self):
        clauses = [("e", [(0, 1, ["f"]), (1, 2, ["g"])]), ("a", [])]
        one = Kind(["a"], ["c"], clauses, "h")
        others = [
            Kind(["b"], ["c"], clauses, "h"),
            Kind(["a", "b"], ["c"], clauses, "h"),
            Kind([], ["c"], clauses, "h"),
            Kind(["a"], ["d"], clauses, "h"),
            Kind(["a"], [], clauses, "h"),
            Kind(["a"], ["c"], clauses, "i"),
            Kind(["a"], ["c"], clauses[::-1], "h"),
            Kind(["a"], ["c"], clauses[:1], "h"),
            Kind(["a"], ["c"], [("e", clauses[0][1][::-1]), ("a", [])], "h"),
            Kind(["a"], ["c"], [("e", [(0, 1, ["f"]), (1, 3, ["g"])]), ("a", [])], "h"),
            Kind(["a"], ["c"], [("e", [(0, 1, ["f"]), (2, 2, ["g"])]), ("a", [])], "h"),
            Kind(["a"], ["c"], [("e", [(0, 1, ["f"]), (1, None, ["g"])]), ("a", [])], "h"),
            Kind(["a"], ["c"], [("e", [(0, 1, ["f", "g"]), (1, 2, ["g"])]), ("a", [])], "h"),
            Kind(["a"], ["c"], [("b", clauses[0][1]), ("a", [])], "h"),
        ]
        for other in others:
            self.assertFalse(one == other)
            self.assertTrue(one != other)
            self.assertFalse(other == one)

    def test_values_of_other_kinds(self):
        kind = Kind(["a"], ["c"], [], "h")
        for thing in [None, True, 0, "a", (), (("a",), ("c",), (), "h"), [["a"], ["c"], [], "h"], {}, object(), Kind]:
            self.assertFalse(kind == thing)
            self.assertTrue(kind != thing)
            self.assertFalse(thing == kind)


class Counting(unittest.TestCase):
    def test_example(self):
        clauses = [("far", [(2, None, ["x"]), (0, 1, ["y"])]), ("none", [(0, 0, ["x"])])]
        kind = Kind([], ["a"], clauses, "some")
        told = [kind.told(["x", "x", "y"]), kind.told(["x", "x", "y", "y"]), kind.told(["y"]), kind.counting(["x"])]
        self.assertEqual(told, ["far", "some", "none", 2])

    def test_a_condition_counts_between_least_and_most(self):
        for least, most in itertools.product(range(10), [None, *range(10)]):
            kind = some((least, most, ["x", "y"]))
            for many in range(12):
                states = (["x", "y"] * many)[:many] + ["z"]
                fits = many >= least and (most is None or many <= most)
                self.assertEqual(kind.told(states), "yes" if fits else "no")
                self.assertEqual(kind.counting(states), 0 if fits else 1)

    def test_the_order_of_parts_makes_no_difference(self):
        kind = Kind([], ["a"], [("far", [(2, 2, ["x"]), (1, None, ["y"])])], "some")
        for states in itertools.permutations(["x", "x", "y", "z"]):
            self.assertEqual(kind.told(list(states)), "far")
            self.assertEqual(kind.told(states), "far")

    def test_all_conditions_must_hold(self):
        conditions = [(1, None, ["a"]), (1, None, ["b"]), (1, None, ["c"]), (1, None, ["d"])]
        kind = Kind([], ["a"], [("all", conditions)], "no")
        self.assertEqual(kind.told(["a", "b", "c", "d"]), "all")
        for lacking in range(4):
            states = [name for name in "abcd" if name != "abcd"[lacking]]
            self.assertEqual(kind.told(states), "no")

    def test_the_first_clause_that_fits_counts(self):
        clauses = [(name, [(1, None, [name])]) for name in "fedcba"]
        kind = Kind([], ["a"], clauses, "none")
        self.assertEqual(kind.told(["a", "b"]), "b")
        self.assertEqual(kind.told(["a", "f", "c"]), "f")
        self.assertEqual([kind.counting([name]) for name in "fedcbag"], [0, 1, 2, 3, 4, 5, 6])
        self.assertEqual(kind.told(["g"]), "none")

    def test_two_clauses_that_tell_the_same(self):
        kind = Kind([], ["a"], [("x", [(2, None, ["a"])]), ("x", [(1, None, ["a"])])], "x")
        self.assertEqual([kind.counting(["a"] * many + ["b"]) for many in [2, 1, 0]], [0, 1, 2])

    def test_a_clause_without_conditions_always_fits(self):
        kind = Kind([], ["a"], [("early", [(1, None, ["a"])]), ("late", []), ("never", [])], "last")
        self.assertEqual([kind.told(["b"]), kind.counting(["b"])], ["late", 1])
        self.assertEqual([kind.told(["a"]), kind.counting(["a"])], ["early", 0])

    def test_a_condition_that_never_holds(self):
        kind = some((2, 1, ["x"]))
        self.assertEqual([kind.told(["x"] * many) for many in [1, 2, 3]], ["no", "no", "no"])

    def test_without_clauses_the_last_state_counts(self):
        kind = Kind(["a"], [], [], "last")
        self.assertEqual([kind.told(["a"]), kind.counting(["a"])], ["last", 0])

    def test_strings_that_are_no_states(self):
        kind = some((1, None, ["x"]))
        self.assertEqual(kind.told(["", "X", "xx", "any string at all"]), "no")
        self.assertEqual(kind.told(["?", "x"]), "yes")

    def test_many_parts(self):
        kind = some((9, 9, ["x"]))
        self.assertEqual(kind.told(["x"] * 9 + ["y"] * 200), "yes")
        self.assertEqual(kind.told(["x"] * 200), "no")

    def test_equal_arguments_give_equal_values(self):
        kind = some((1, 2, ["x", "y"]))
        for states in [["x"], ["z"], ["x", "y", "x"]]:
            self.assertEqual(kind.told(states), kind.told(list(states)))
            self.assertEqual(kind.told(states), some((1, 2, ["y", "x"])).told(tuple(states)))


class Wrong(unittest.TestCase):
    def wrong(self, place, *arguments):
        with self.subTest(arguments):
            with self.assertRaises(BadKind) as caught:
                Kind(*arguments)
            self.assertEqual(caught.exception.place, place)

    def test_hand(self):
        for thing in NOT_LISTS:
            self.wrong("hand", thing, ["a"], [], "z")
        for thing in NOT_NAMES:
            self.wrong("hand", [thing], ["a"], [], "z")
            self.wrong("hand", ("a", thing), ["a"], [], "z")
        self.wrong("hand", ["a", "b", "a"], ["a"], [], "z")
        self.wrong("hand", nested(40, "a"), ["a"], [], "z")

    def test_parts(self):
        for thing in NOT_LISTS:
            self.wrong("parts", ["a"], thing, [], "z")
            self.wrong("parts", [], thing, [], "z")
        for thing in NOT_NAMES:
            self.wrong("parts", ["a"], [thing], [], "z")
            self.wrong("parts", ["a"], ("a", thing), [], "z")
        self.wrong("parts", [], ["a", "b", "b"], [], "z")
        self.wrong("parts", [], [], [], "z")
        self.wrong("parts", (), (), (), "z")
        self.wrong("parts", ["a"], nested(40, "a"), [], "z")

    def test_clauses(self):
        for thing in NOT_LISTS:
            self.wrong("clauses", ["a"], ["a"], thing, "z")
            self.wrong("clauses", ["a"], ["a"], [thing], "z")
            self.wrong("clauses", ["a"], ["a"], [CLAUSE, thing], "z")
            self.wrong("clauses", ["a"], ["a"], [("done", thing)], "z")
            self.wrong("clauses", ["a"], ["a"], [("done", [thing])], "z")
            self.wrong("clauses", ["a"], ["a"], [("done", [(0, 0, thing)])], "z")
        for thing in NOT_NAMES:
            self.wrong("clauses", ["a"], ["a"], [(thing, [])], "z")
            self.wrong("clauses", ["a"], ["a"], [("done", [(0, 0, [thing])])], "z")
            self.wrong("clauses", ["a"], ["a"], [("done", [(0, 0, ["b", thing])])], "z")

    def test_numbers_of_conditions(self):
        for thing in NOT_DIGITS:
            self.wrong("clauses", ["a"], ["a"], [("done", [(0, thing, ["b"])])], "z")
            self.wrong("clauses", ["a"], ["a"], [("done", [(thing, 9, ["b"])])], "z")
        self.wrong("clauses", ["a"], ["a"], [("done", [(None, None, ["b"])])], "z")
        kind = Kind(["a"], ["a"], [("done", [(0, 0, ["b"]), (9, 9, ["b"]), (9, None, ["b"])])], "z")
        self.assertEqual(kind.clauses[0][1], ((0, 0, ("b",)), (9, 9, ("b",)), (9, None, ("b",))))

    def test_forms_of_conditions_and_clauses(self):
        wrong = [
            (), ("done",), ("done", [], []), ([], "done"), ("done", [()]), ("done", [(0, 0)]),
            ("done", [(0, 0, [])]), ("done", [(0, 0, ())]), ("done", [(0, 0, ["b", "b"])]),
            ("done", [(0, 0, ["b"], 0)]), ("done", [(["b"], 0, 0)]), ("done", (0, 0, ("b",))),
            ("done", [(0, 0, "b")]), ("done", [(0, 0, ["b"]), (0, 0, [])]), nested(39, "a"),
        ]
        for clause in wrong:
            self.wrong("clauses", ["a"], ["a"], [clause], "z")
            self.wrong("clauses", ["a"], ["a"], [CLAUSE, CLAUSE, clause], "z")
        self.wrong("clauses", ["a"], ["a"], CLAUSE, "z")

    def test_six_clauses_and_four_conditions(self):
        condition = (0, 0, ("open",))
        self.assertEqual(len(Kind(["a"], [], [CLAUSE] * 6, "z").clauses), 6)
        self.wrong("clauses", ["a"], [], [CLAUSE] * 7, "z")
        four = Kind(["a"], [], [("done", [condition] * 4)] * 6, "z")
        self.assertEqual(four.clauses[5][1], (condition,) * 4)
        self.wrong("clauses", ["a"], [], [("done", [condition] * 5)], "z")
        self.wrong("clauses", ["a"], [], [CLAUSE] * 5 + [("done", [condition] * 5)], "z")

    def test_last(self):
        for thing in NOT_NAMES:
            self.wrong("last", ["a"], ["a"], [CLAUSE], thing)
        self.wrong("last", ["a"], ["a"], [], nested(40, "a"))

    def test_the_first_wrong_place_counts(self):
        rights = [["a"], ["a"], [CLAUSE], "z"]
        places = ["hand", "parts", "clauses", "last"]
        for wrongs in itertools.product([False, True], repeat=4):
            if any(wrongs):
                arguments = [None if wrong else right for wrong, right in zip(wrongs, rights)]
                self.wrong(places[wrongs.index(True)], *arguments)
        self.wrong("parts", [], [], None, None)
        self.wrong("hand", "a", [], [], "z")

    def test_names_of_one_and_of_eight_letters(self):
        kind = Kind(["a", "abcdefgh", "zzzzzzzz"], ["z"], [("mmmmmmmm", [])], "z")
        self.assertEqual(kind.hand, ("a", "abcdefgh", "zzzzzzzz"))


if __name__ == "__main__":
    unittest.main()
