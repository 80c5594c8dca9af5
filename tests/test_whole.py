"""The whole program: what the interface says of every class and function (point 1 and its opening paragraphs)."""

import copy
import importlib
import inspect
import os
import pathlib
import subprocess
import sys
import unittest

from helper import Agreeing, listed

from partstold import errors
from partstold.books import Book, Kind
from partstold.known import levels, lights, ticks, votes, work
from partstold.trees import Tree

# The names of the modules, functions and parameters of the interface.
FUNCTIONS = {
    "branches": {"state_of": "book branch", "size": "branch", "states_below": "book branch"},
    "possible": {"possible": "book kind", "least": "book kind state", "idle": "book", "unlike": "one other"},
    "surroundings": {"filled": "surrounding branch", "table_of": "book hole surrounding", "tables": "book hole top",
                     "paper": "book hole", "is_paper": "book hole paper"},
    "deeds": {"carried": "book hole top old new", "carrier": "book hole top old new before behind",
              "added": "book kind top", "struck": "book kind top"},
    "everywhere": {"alike": "book hole top wanted", "parting": "book hole top one other wanted"},
    "forks": {"rows": "book one two top", "fork": "book one two top row", "flickers": "book one two top",
              "filled_twice": "double first second"},
    "sure": {"least_with": "book kind state among low high", "is_sure": "book kind state among low high"},
    "mending": {"fewest": "book branch state", "settings": "book branch state"},
    "known": {"ticks": "", "lights": "", "work": "", "votes": "number", "levels": "number"},
}
METHODS = {
    ("books", "Kind"): {"told": "states", "counting": "states"},
    ("books", "Book"): {"kind_named": "name", "text": "", "parse": "text"},
    ("trees", "Tree"): {
        "tasks": "", "kind_at": "name", "state_at": "name", "told_at": "name", "mark_at": "name", "parts_at": "name",
        "task_above": "name", "branch_at": "name", "add": "parent name kind state", "put": "name state", "put_all": "pairs",
        "strike": "name", "move": "name parent", "hold": "name state", "soften": "name state", "free": "name", "undo": "", "again": "",
    },
}
MAKING = {("books", "Kind"): "hand parts clauses last", ("books", "Book"): "kinds", ("trees", "Tree"): "book name kind state"}
PROPERTIES = {("books", "Kind"): "hand parts clauses last", ("books", "Book"): "names states", ("trees", "Tree"): "book top"}
OWN_SIGNS = {("books", "Kind"): "__eq__", ("books", "Book"): "__eq__", ("trees", "Tree"): "__len__ __contains__"}

WORK = ("phase", (("task", (("step", "stuck"), ("step", "done"))), ("task", "done"), ("task", (("step", "stuck"),))))
AROUND = ("phase", (("task", ((), ("step", "stuck"))), ("task", "done"), ("task", (("step", "stuck"),))))
DOUBLE = ("phase", (("task", ((), ("step", "stuck"))), ("task", "done"), ("task", ((),))))
STUCK, DONE = ("step", "open", "stuck"), ("step", "stuck", "done")


def function_of(module, name):
    return getattr(importlib.import_module("partstold." + module), name)


def class_of(place):
    return function_of(*place)


def questions():
    """Returns triples of a module, a function and its arguments by name, with lists that can be changed, for each function."""
    book, paper = work(), {"phase": [], "step": [], "task": []}
    arguments = {
        "book": book, "branch": listed(WORK), "kind": "phase", "state": "alert", "one": book, "other": votes(2), "hole": "step",
        "top": "phase", "surrounding": listed(AROUND), "paper": paper, "old": "open", "new": "stuck", "before": "open",
        "behind": "alert", "wanted": ["alert", "done"], "number": 3, "among": ["stuck", "open"], "low": 2, "high": 3,
        "double": listed(DOUBLE), "first": ["step", "open"], "second": ["task", [["step", "open"]]],
    }
    own = {
        "everywhere": {"one": "open", "other": "stuck"},
        "forks": {"one": list(STUCK), "two": list(DONE), "row": ["open", "alert", "open", "alert"]},
    }
    for module, functions in FUNCTIONS.items():
        for name, parameters in functions.items():
            named = {**arguments, **own.get(module, {})}
            if name in ["added", "struck"]:
                named["kind"] = "task"
            if name == "filled":
                named["branch"] = ["step", "open"]
            yield module, name, {parameter: copy.deepcopy(named[parameter]) for parameter in parameters.split()}


def spoiled(thing):
    """Changes all lists and dicts in a thing."""
    if isinstance(thing, (list, tuple)):
        for inner in thing:
            spoiled(inner)
    if isinstance(thing, dict):
        for inner in thing.values():
            spoiled(inner)
    if isinstance(thing, (list, dict)):
        thing.clear()


def with_tuples(thing):
    """Returns a thing with tuples for lists."""
    if isinstance(thing, (list, tuple)):
        return tuple(with_tuples(inner) for inner in thing)
    return {name: with_tuples(inner) for name, inner in thing.items()} if isinstance(thing, dict) else thing


def tree_with_past():
    """Returns a tree of the book of work behind some deeds, one of which was undone."""
    tree = Tree(work(), "top", "task", "open")
    for parent, name, kind, state in [("top", "a", "task", "open"), ("a", "b", "step", "stuck"), ("top", "c", "step", "done")]:
        tree.add(parent, name, kind, state)
    tree.soften("top", "open")
    tree.put("c", "dropped")
    tree.undo()
    return tree


class Interface(unittest.TestCase):
    def test_the_names_of_parameters(self):
        for module, functions in FUNCTIONS.items():
            for name, parameters in functions.items():
                function = function_of(module, name)
                self.assertEqual(list(inspect.signature(function).parameters), parameters.split(), name)
                self.assertEqual([function.__module__, function.__name__], ["partstold." + module, name])
        for name in ["least_with", "is_sure"]:
            self.assertIsNone(inspect.signature(function_of("sure", name)).parameters["high"].default)

    def test_the_names_of_parameters_of_methods(self):
        for place, methods in METHODS.items():
            own = class_of(place)
            self.assertEqual(own.__module__, "partstold." + place[0])
            self.assertEqual(list(inspect.signature(own).parameters), MAKING[place].split())
            for name, parameters in methods.items():
                expected = parameters.split() if name == "parse" else ["self", *parameters.split()]
                self.assertIn(name, vars(own))
                method = getattr(own, name)
                self.assertEqual(list(inspect.signature(method).parameters), expected, name)

    def test_properties_and_signs_are_those_of_the_class_itself(self):
        for place, names in PROPERTIES.items():
            for name in names.split():
                self.assertIsInstance(vars(class_of(place))[name], property)
        for place, names in OWN_SIGNS.items():
            for name in names.split():
                self.assertIn(name, vars(class_of(place)))

    def test_properties_cannot_be_set(self):
        for thing, names in [(votes(2).kind_named("vote"), "hand parts clauses last"), (votes(2), "names states"), (tree_with_past(), "book top")]:
            for name in names.split():
                with self.assertRaises(AttributeError):
                    setattr(thing, name, ())

    def test_each_function_by_the_names_of_its_parameters(self):
        for module, name, arguments in questions():
            with self.subTest(name):
                function = function_of(module, name)
                self.assertEqual(function(**dict(reversed(arguments.items()))), function(*arguments.values()))

    def test_each_method_by_the_names_of_its_parameters(self):
        calls = {
            "tasks": {}, "kind_at": {"name": "a"}, "state_at": {"name": "a"}, "told_at": {"name": "a"}, "mark_at": {"name": "top"},
            "parts_at": {"name": "a"}, "task_above": {"name": "a"}, "branch_at": {"name": "a"},
            "add": {"parent": "a", "name": "d", "kind": "step", "state": "open"}, "put": {"name": "c", "state": "stuck"},
            "put_all": {"pairs": [("c", "stuck")]}, "strike": {"name": "c"}, "move": {"name": "c", "parent": "a"},
            "hold": {"name": "a", "state": "alert"}, "soften": {"name": "a", "state": "alert"}, "free": {"name": "top"},
            "undo": {}, "again": {},
        }
        self.assertEqual(set(calls), set(METHODS["trees", "Tree"]))
        for name, arguments in calls.items():
            one, other = tree_with_past(), tree_with_past()
            told = getattr(one, name)(**dict(reversed(arguments.items())))
            self.assertEqual(told, getattr(other, name)(*arguments.values()), name)
            self.assertEqual(one.tasks(), other.tasks())
        kind = Kind(last="x", clauses=[], parts=[], hand=["x"])
        self.assertEqual([kind.told(states=["x"]), kind.counting(states=["x"])], ["x", 0])
        book = Book(kinds={"a": kind})
        self.assertEqual([book.kind_named(name="a"), Book.parse(text=book.text())], [kind, book])
        self.assertEqual(Tree(state="x", kind="a", name="b", book=book).top, "b")

    def test_tuples_for_lists(self):
        for module, name, arguments in questions():
            with self.subTest(name):
                function = function_of(module, name)
                self.assertEqual(function(**with_tuples(arguments)), function(**arguments))


class Values(unittest.TestCase):
    def test_each_question_twice_with_what_was_told_changed_in_between(self):
        for module, name, arguments in questions():
            with self.subTest(name):
                function = function_of(module, name)
                first = function(**arguments)
                expected = copy.deepcopy(first)
                spoiled(first)
                self.assertEqual(function(**arguments), expected)
                self.assertEqual(function(**copy.deepcopy(arguments)), expected)

    def test_what_is_passed_is_not_modified(self):
        for module, name, arguments in questions():
            with self.subTest(name):
                before = copy.deepcopy(arguments)
                first = function_of(module, name)(**arguments)
                self.assertEqual(arguments, before)
                spoiled(first)
                self.assertEqual(arguments, before)

    def test_what_is_passed_and_changed_later_makes_no_difference(self):
        for module, name, arguments in questions():
            with self.subTest(name):
                told = function_of(module, name)(**arguments)
                expected = copy.deepcopy(told)
                spoiled([thing for thing in arguments.values() if not isinstance(thing, Book)])
                self.assertEqual(told, expected)

    def test_a_tree_asked_twice_with_what_was_told_changed_in_between(self):
        tree = tree_with_past()
        for name, parameters in METHODS["trees", "Tree"].items():
            if parameters in ["", "name"] and name not in ["strike", "free", "undo", "again"]:
                for task in ["top", "a", "c"] if parameters else [None]:
                    arguments = [task] if parameters else []
                    first = getattr(tree, name)(*arguments)
                    expected = copy.deepcopy(first)
                    spoiled(first)
                    self.assertEqual(getattr(tree, name)(*arguments), expected, name)

    def test_the_news_of_each_deed_may_be_changed(self):
        deeds = [("add", ("a", "d", "step", "open")), ("put", ("c", "stuck")), ("put_all", ([("c", "stuck")],)), ("strike", ("c",)),
                 ("move", ("c", "a")), ("hold", ("a", "alert")), ("soften", ("a", "alert")), ("free", ("top",)), ("again", ())]
        for deed, arguments in deeds:
            tree, other = tree_with_past(), tree_with_past()
            news = getattr(tree, deed)(*arguments)
            self.assertEqual([type(news), all(type(row) is tuple for row in news)], [list, True])
            self.assertEqual(getattr(other, deed)(*arguments), news)
            news.append("more")
            back = other.undo()
            told = tree.undo()
            self.assertEqual(told, back)
            told.clear()
            self.assertEqual(tree.again(), other.again())
            self.assertEqual([tree.branch_at("top"), tree.tasks()], [other.branch_at("top"), other.tasks()])

    def test_two_trees_have_nothing_to_do_with_each_other(self):
        book = work()
        one, other = Tree(book, "top", "task", "open"), Tree(book, "top", "task", "open")
        one.add("top", "a", "step", "stuck")
        self.assertEqual([len(other), other.state_at("top"), "a" in other], [1, "open", False])
        with self.assertRaises(errors.NoDeed):
            other.undo()

    def test_books_copy_what_they_are_passed(self):
        hand, parts, states = ["x", "y"], ["a"], ["x"]
        clauses = [["y", [[1, None, states]]]]
        kind = Kind(hand, parts, clauses, "z")
        kinds = {"a": kind}
        book = Book(kinds)
        text = book.text()
        for thing in [hand, parts, states, clauses, kinds]:
            thing.clear()
        self.assertEqual([book.text(), book.kind_named("a"), kind.told(["x"]), book.names], [text, kind, "y", ("a",)])

    def test_objects_are_not_equal_to_other_values(self):
        kind = votes(2).kind_named("vote")
        things = [kind, votes(2), tree_with_past()]
        others = [None, 0, True, "vote", b"vote", (), ("vote",), [], ["vote"], {}, {"vote": kind}, object(), Kind, votes, errors.NoDeed()]
        for thing in things:
            for other in [*others, *[one for one in things if one is not thing]]:
                self.assertIs(thing == other, False)
                self.assertIs(thing != other, True)
                self.assertIs(other == thing, False)
                self.assertIs(other != thing, True)
            self.assertIs(thing == thing, True)
            self.assertIs(thing != thing, False)
        for thing in things[:2]:
            self.assertIs(thing == Agreeing(), False)
            self.assertIs(thing != Agreeing(), True)

    def test_equal_objects(self):
        for book in [work, lights, ticks]:
            self.assertIs(book() == book(), True)
            self.assertIs(book() != book(), False)
            self.assertIs(book().kind_named(book().names[0]) == book().kind_named(book().names[0]), True)
        self.assertIs(votes(2) == votes(3), False)
        self.assertIs(votes(2) != votes(3), True)
        self.assertIs(levels(2) == levels(2), True)

    def test_the_same_values_in_another_run(self):
        """Nothing depends on the order of the members of a set, which is another one in each run of Python."""
        folder = pathlib.Path(__file__).resolve().parent
        code = "import test_whole\nfor m, n, a in test_whole.questions():\n    print(n, repr(test_whole.function_of(m, n)(**a)) if m != 'known' else '')"
        told = []
        for seed in ["0", "1", "2", "3"]:
            path = os.pathsep.join([str(folder), str(folder.parent)])
            run = subprocess.run([sys.executable, "-B", "-c", code], env={"PYTHONHASHSEED": seed, "PYTHONPATH": path},
                                 capture_output=True, text=True, check=True)
            told.append(run.stdout)
        self.assertGreater(len(told[0].split("\n")), 25)
        self.assertEqual(told, told[:1] * 4)


class Errors(unittest.TestCase):
    def test_each_error_is_raised_somewhere(self):
        """All errors that the interface lists are raised by the program, so that none is there in vain."""
        raised = set()
        for path in (pathlib.Path(__file__).resolve().parent.parent / "partstold").glob("*.py"):
            for line in path.read_text().split("\n"):
                if line.strip().startswith("raise "):
                    raised.add(line.strip().split()[1].split("(")[0])
        expected = {name for name, thing in vars(errors).items() if isinstance(thing, type)} - {"PartsError"}
        self.assertEqual(raised, expected)


if __name__ == "__main__":
    unittest.main()
