"""Trees that change, with marks (points 21 to 24)."""

import random
import unittest

import brute
from helper import NOT_NAMES, Agreeing, barren, nested
from model import Model

from partstold import errors
from partstold.books import Book, Kind
from partstold.known import levels, lights, ticks, votes, work
from partstold.trees import Tree

NO_TASKS = [*NOT_NAMES, "none", "unit", nested(40, "all"), ("all",)]
NO_STATES = [*NOT_NAMES, "blue", "unit", nested(40, "red"), ("red",)]
QUESTIONS = ["kind_at", "state_at", "told_at", "mark_at", "parts_at", "task_above", "branch_at"]


def everything(tree):
    """Returns all that a tree tells of its tasks."""
    return {name: tuple(getattr(tree, question)(name) for question in QUESTIONS) for name in tree.tasks()}


def tree_of_lights():
    """Returns a tree of five units: one with two and one without parts below the top task."""
    tree = Tree(lights(), "all", "unit", "green")
    for parent, name, state in [("all", "left", "red"), ("all", "right", "green"), ("left", "one", "green"), ("left", "two", "amber")]:
        tree.add(parent, name, "unit", state)
    return tree


class TreeTest(unittest.TestCase):
    def refused(self, error, call, **fields):
        """Checks that a call raises an error with the very objects."""
        with self.assertRaises(error) as caught:
            call()
        self.assertIs(type(caught.exception), error)
        self.assertEqual(list(vars(caught.exception)), list(fields))
        for field, thing in fields.items():
            self.assertIs(getattr(caught.exception, field), thing)


class Making(TreeTest):
    def test_the_top_task_alone(self):
        tree = Tree(work(), "top", "task", "open")
        self.assertEqual([tree.book, tree.top, len(tree), tree.tasks()], [work(), "top", 1, ["top"]])
        self.assertEqual(everything(tree), {"top": ("task", "open", None, None, [], None, ("task", "open"))})

    def test_arguments_by_name(self):
        tree = Tree(state="stuck", kind="step", name="abcdefgh", book=work())
        self.assertEqual(tree.branch_at(name="abcdefgh"), ("step", "stuck"))

    def test_wrong_names(self):
        for thing in NOT_NAMES:
            self.refused(errors.BadName, lambda: Tree(work(), thing, "task", "open"), name=thing)
            self.refused(errors.BadName, lambda: Tree(work(), thing, thing, thing), name=thing)

    def test_unknown_kinds(self):
        for thing in [*NOT_NAMES, "open", "tasks", nested(40, "task"), ("task",)]:
            self.refused(errors.UnknownKind, lambda: Tree(work(), "top", thing, "open"), kind=thing)
            self.refused(errors.UnknownKind, lambda: Tree(work(), "top", thing, None), kind=thing)

    def test_what_are_no_hand_states(self):
        for thing in [*NOT_NAMES, "never", "stuck", "alert", nested(40, "open"), ("open",)]:
            self.refused(errors.BadState, lambda: Tree(work(), "top", "task", thing), state=thing)
        self.refused(errors.BadState, lambda: Tree(work(), "top", "phase", "open"), state="open")
        self.refused(errors.BadState, lambda: Tree(barren(), "top", "ka", "x"), state="x")

    def test_a_tree_is_no_value_of_another_kind(self):
        tree = Tree(work(), "top", "task", "open")
        for thing in [None, 0, 1, True, "top", b"top", ("top",), ["top"], {"top": "task"}, {"top"}, work(), ("task", "open"), object(), Tree]:
            self.assertIs(tree == thing, False)
            self.assertIs(tree != thing, True)
            self.assertIs(thing == tree, False)
        self.assertIs(tree == tree, True)
        self.assertIs(tree != tree, False)


class Questions(TreeTest):
    def test_each_question(self):
        tree = tree_of_lights()
        self.assertEqual(tree.tasks(), ["all", "left", "one", "right", "two"])
        self.assertEqual([len(tree), tree.top, tree.book], [5, "all", lights()])
        self.assertEqual([tree.kind_at("one"), tree.state_at("one"), tree.state_at("left"), tree.state_at("all")],
                         ["unit", "green", "amber", "amber"])
        self.assertEqual([tree.told_at("one"), tree.told_at("left"), tree.told_at("all")], [None, "amber", "amber"])
        self.assertEqual([tree.parts_at("all"), tree.parts_at("left"), tree.parts_at("one")], [["left", "right"], ["one", "two"], []])
        self.assertEqual([tree.task_above("all"), tree.task_above("left"), tree.task_above("two")], [None, "all", "left"])
        self.assertEqual(tree.branch_at("left"), ("unit", (("unit", "green"), ("unit", "amber"))))
        self.assertEqual(tree.branch_at("all"), ("unit", (("unit", (("unit", "green"), ("unit", "amber"))), ("unit", "green"))))
        self.assertEqual([tree.branch_at("right"), tree.mark_at("all"), tree.mark_at("right")], [("unit", "green"), None, None])

    def test_marks(self):
        tree = tree_of_lights()
        tree.hold("left", "green")
        self.assertEqual([tree.mark_at("left"), tree.state_at("left"), tree.told_at("left")], [("held", "green"), "green", "amber"])
        self.assertEqual([tree.state_at("all"), tree.told_at("all"), tree.mark_at("all")], ["green", "green", None])
        tree.soften("left", "red")
        self.assertEqual([tree.mark_at("left"), tree.state_at("left"), tree.told_at("left")], [("soft", "red"), "red", "amber"])
        self.assertEqual([tree.state_at("all"), tree.told_at("all"), tree.mark_at("all")], ["red", "red", None])
        self.assertEqual(tree.branch_at("all"), tree_of_lights().branch_at("all"))

    def test_parts_in_the_order_of_their_names(self):
        tree = Tree(work(), "top", "task", "open")
        for name, kind, state in [("zz", "step", "open"), ("b", "task", "done"), ("ab", "step", "dropped"), ("a", "step", "stuck")]:
            tree.add("top", name, kind, state)
        self.assertEqual(tree.parts_at("top"), ["a", "ab", "b", "zz"])
        self.assertEqual(tree.branch_at("top"), ("task", (("step", "stuck"), ("step", "dropped"), ("task", "done"), ("step", "open"))))
        self.assertEqual(tree.tasks(), ["a", "ab", "b", "top", "zz"])

    def test_the_names_of_tasks(self):
        tree = tree_of_lights()
        for name in tree.tasks():
            self.assertIs(name in tree, True)
        for thing in [*NO_TASKS, tree, lights()]:
            self.assertIs(thing in tree, False)
            self.assertIs(thing not in tree, True)

    def test_what_are_no_tasks(self):
        tree = tree_of_lights()
        for thing in NO_TASKS:
            for question in QUESTIONS:
                self.refused(errors.NoTask, lambda: getattr(tree, question)(thing), name=thing)

    def test_arguments_by_name(self):
        tree = tree_of_lights()
        self.assertEqual([tree.kind_at(name="one"), tree.state_at(name="one"), tree.told_at(name="left")], ["unit", "green", "amber"])
        self.assertEqual([tree.mark_at(name="one"), tree.parts_at(name="left"), tree.task_above(name="one")], [None, ["one", "two"], "left"])
        self.assertEqual(tree.branch_at(name="right"), ("unit", "green"))

    def test_the_lists_are_new(self):
        tree = tree_of_lights()
        before = everything(tree)
        tree.tasks().clear()
        tree.parts_at("all").append("new")
        tree.parts_at("left").clear()
        self.assertEqual([everything(tree), tree.tasks()], [before, ["all", "left", "one", "right", "two"]])
        self.assertEqual(tree.put("one", "red"), [("all", "red"), ("left", "red"), ("one", "red")])

    def test_questions_change_nothing(self):
        tree = tree_of_lights()
        tree.undo()
        before = everything(tree)
        self.assertEqual([len(tree), "one" in tree, everything(tree), tree.tasks()], [4, True, before, ["all", "left", "one", "right"]])
        self.assertEqual(tree.again(), [("all", "amber"), ("left", "amber"), ("two", "amber")])


class Add(TreeTest):
    def test_example(self):
        tree = Tree(lights(), "all", "unit", "green")
        first = tree.add("all", "one", "unit", "red")
        second = tree.soften("all", "green")
        third = tree.add("all", "two", "unit", "amber")
        told = [first, second, third, tree.mark_at("all"), tree.put("one", "green"), tree.mark_at("all"), tree.undo()]
        self.assertEqual(told, [
            [("all", "red"), ("one", "red")], [("all", "green")], [("two", "amber")], ("soft", "green"),
            [("all", "amber"), ("one", "green")], None, [("all", "green"), ("one", "red")]])

    def test_the_hand_state_of_the_task_above_is_gone(self):
        tree = Tree(work(), "top", "task", "done")
        self.assertEqual(tree.add("top", "a", "step", "dropped"), [("a", "dropped"), ("top", "dropped")])
        self.assertEqual(tree.branch_at("top"), ("task", (("step", "dropped"),)))
        self.refused(errors.HasParts, lambda: tree.put("top", "open"), name="top")

    def test_a_new_task_is_news_whatever_its_state(self):
        tree = Tree(lights(), "all", "unit", "green")
        self.assertEqual(tree.add("all", "z", "unit", "green"), [("z", "green")])
        self.assertEqual(tree.add("z", "a", "unit", "green"), [("a", "green")])

    def test_a_name_may_come_again(self):
        tree = tree_of_lights()
        tree.strike("one")
        self.assertEqual(tree.add("right", "one", "unit", "red"), [("all", "red"), ("one", "red"), ("right", "red")])

    def test_what_is_refused(self):
        tree = tree_of_lights()
        before = everything(tree)
        for thing in NO_TASKS:
            self.refused(errors.NoTask, lambda: tree.add(thing, None, None, None), name=thing)
        for thing in NOT_NAMES:
            self.refused(errors.BadName, lambda: tree.add("all", thing, None, None), name=thing)
        for name in tree.tasks():
            self.refused(errors.Taken, lambda: tree.add("one", name, None, None), name=name)
        for thing in [*NOT_NAMES, "green", "one", ("unit",), nested(40, "unit")]:
            self.refused(errors.BadPart, lambda: tree.add("all", "new", thing, None), kind=thing)
        for thing in NO_STATES:
            self.refused(errors.BadState, lambda: tree.add("all", "new", "unit", thing), state=thing)
        self.assertEqual(everything(tree), before)

    def test_kinds_that_may_not_be_parts(self):
        tree = Tree(work(), "top", "task", "open")
        self.refused(errors.BadPart, lambda: tree.add("top", "a", "phase", "alert"), kind="phase")
        tree.add("top", "a", "step", "open")
        self.refused(errors.BadPart, lambda: tree.add("a", "b", "step", "open"), kind="step")
        self.refused(errors.BadState, lambda: tree.add("top", "b", "task", "stuck"), state="stuck")
        self.refused(errors.BadState, lambda: tree.add("top", "b", "step", "alert"), state="alert")
        tree = Tree(barren(), "top", "kc", "x")
        self.refused(errors.BadState, lambda: tree.add("top", "a", "ka", "x"), state="x")

    def test_arguments_by_name(self):
        tree = Tree(lights(), "all", "unit", "green")
        self.assertEqual(tree.add(state="red", kind="unit", name="one", parent="all"), [("all", "red"), ("one", "red")])


class Put(TreeTest):
    def test_one(self):
        tree = tree_of_lights()
        self.assertEqual(tree.put("one", "red"), [("all", "red"), ("left", "red"), ("one", "red")])
        self.assertEqual(tree.put("right", "amber"), [("right", "amber")])
        self.assertEqual(tree.put("right", "amber"), [])
        self.assertEqual(tree.put(state="green", name="one"), [("all", "amber"), ("left", "amber"), ("one", "green")])

    def test_the_top_task_alone(self):
        tree = Tree(work(), "top", "step", "open")
        self.assertEqual(tree.put("top", "stuck"), [("top", "stuck")])

    def test_several_at_once(self):
        tree = tree_of_lights()
        self.assertEqual(tree.put_all([("one", "red"), ["right", "red"]]), [("all", "red"), ("left", "red"), ("one", "red"), ("right", "red")])
        self.assertEqual(tree.put_all(pairs=(("one", "green"), ("right", "amber"))), [
            ("all", "amber"), ("left", "amber"), ("one", "green"), ("right", "amber")])
        self.assertEqual(tree.put_all([("right", "green"), ("two", "amber")]), [("right", "green")])

    def test_none(self):
        tree = tree_of_lights()
        before = everything(tree)
        self.assertEqual(tree.put_all([]), [])
        self.assertEqual(everything(tree), before)

    def test_the_last_of_several_pairs_with_one_name_counts(self):
        tree = tree_of_lights()
        self.assertEqual(tree.put_all([("one", "red"), ("two", "green"), ("one", "green"), ("one", "amber")]), [("one", "amber"), ("two", "green")])
        self.refused(errors.BadState, lambda: tree.put_all([("one", "blue"), ("one", "green")]), state="blue")
        self.refused(errors.BadState, lambda: tree.put_all([("one", "green"), ("one", None)]), state=None)
        self.assertEqual(tree.state_at("one"), "amber")

    def test_two_at_once_are_followed_up_once(self):
        """A soft mark stays where one change after the other would have taken it away."""
        tree = Tree(lights(), "all", "unit", "green")
        tree.put_all([("all", "green")])
        tree.add("all", "a", "unit", "green")
        tree.add("all", "b", "unit", "red")
        tree.soften("all", "amber")
        self.assertEqual(tree.put_all([("a", "red"), ("b", "green")]), [("a", "red"), ("b", "green")])
        self.assertEqual(tree.mark_at("all"), ("soft", "amber"))
        self.assertEqual(tree.put("a", "green"), [("a", "green"), ("all", "green")])

    def test_what_is_refused(self):
        tree = tree_of_lights()
        before = everything(tree)
        for thing in NO_TASKS:
            self.refused(errors.NoTask, lambda: tree.put(thing, None), name=thing)
            self.refused(errors.NoTask, lambda: tree.put_all([("one", "red"), (thing, None), ("all", "red")]), name=thing)
        self.refused(errors.HasParts, lambda: tree.put("left", None), name="left")
        self.refused(errors.HasParts, lambda: tree.put_all([("one", "red"), ("all", "blue"), ("none", "red")]), name="all")
        for thing in NO_STATES:
            self.refused(errors.BadState, lambda: tree.put("one", thing), state=thing)
            self.refused(errors.BadState, lambda: tree.put_all([("two", "green"), ["one", thing], ("none", "red")]), state=thing)
        self.assertEqual(everything(tree), before)

    def test_states_that_are_no_hand_states_of_the_kind(self):
        tree = Tree(work(), "top", "task", "open")
        self.refused(errors.BadState, lambda: tree.put("top", "stuck"), state="stuck")
        tree.add("top", "a", "step", "open")
        self.refused(errors.BadState, lambda: tree.put("a", "alert"), state="alert")

    def test_what_is_passed_is_not_modified_and_may_be_changed_later(self):
        tree = tree_of_lights()
        pairs = [["one", "red"], ["two", "green"]]
        told = tree.put_all(pairs)
        self.assertEqual(pairs, [["one", "red"], ["two", "green"]])
        before = everything(tree)
        pairs[0][1] = "blue"
        pairs.clear()
        told.clear()
        self.assertEqual(everything(tree), before)
        tree.undo()
        self.assertEqual(tree.again(), [("all", "red"), ("left", "red"), ("one", "red"), ("two", "green")])


class Strike(TreeTest):
    def test_with_everything_below(self):
        tree = tree_of_lights()
        self.assertEqual(tree.strike("left"), [("all", "green")])
        self.assertEqual([tree.tasks(), tree.branch_at("all")], [["all", "right"], ("unit", (("unit", "green"),))])
        self.refused(errors.NoTask, lambda: tree.state_at("one"), name="one")

    def test_a_task_without_parts(self):
        tree = tree_of_lights()
        self.assertEqual(tree.strike(name="two"), [("all", "green"), ("left", "green")])
        self.assertEqual(tree.parts_at("left"), ["one"])

    def test_marks_go_with_the_task(self):
        tree = tree_of_lights()
        tree.hold("left", "red")
        tree.strike("left")
        tree.add("all", "left", "unit", "green")
        tree.add("left", "new", "unit", "green")
        self.assertIsNone(tree.mark_at("left"))

    def test_what_is_refused(self):
        tree = tree_of_lights()
        for thing in NO_TASKS:
            self.refused(errors.NoTask, lambda: tree.strike(thing), name=thing)
        self.refused(errors.TopTask, lambda: tree.strike("all"), name="all")
        tree.strike("one")
        self.refused(errors.LastPart, lambda: tree.strike("two"), name="two")
        self.refused(errors.TopTask, lambda: Tree(work(), "a", "step", "open").strike("a"), name="a")


class Move(TreeTest):
    def test_with_everything_below(self):
        tree = tree_of_lights()
        self.assertEqual(tree.move("left", "right"), [("right", "amber")])
        self.assertEqual([tree.parts_at("all"), tree.parts_at("right"), tree.parts_at("left")], [["right"], ["left"], ["one", "two"]])
        self.assertEqual([tree.task_above("left"), len(tree)], ["right", 5])

    def test_the_hand_state_of_the_task_above_is_gone(self):
        tree = tree_of_lights()
        tree.put("right", "red")
        self.assertEqual(tree.move("one", "right"), [("all", "amber"), ("right", "green")])
        self.refused(errors.HasParts, lambda: tree.put("right", "red"), name="right")
        self.refused(errors.LastPart, lambda: tree.strike("one"), name="one")

    def test_up(self):
        tree = tree_of_lights()
        self.assertEqual(tree.move(parent="all", name="two"), [("left", "green")])
        self.assertEqual(tree.parts_at("all"), ["left", "right", "two"])

    def test_within_one_task(self):
        tree = tree_of_lights()
        before = everything(tree)
        self.assertEqual(tree.move("one", "left"), [])
        self.assertEqual(everything(tree), before)
        tree.strike("one")
        self.assertEqual(tree.move("two", "left"), [])
        self.refused(errors.LastPart, lambda: tree.move("two", "all"), name="two")
        self.assertEqual(tree.undo(), [])
        self.assertEqual(tree.undo(), [("one", "green")])

    def test_what_is_refused(self):
        tree = tree_of_lights()
        before = everything(tree)
        for thing in NO_TASKS:
            self.refused(errors.NoTask, lambda: tree.move(thing, None), name=thing)
            self.refused(errors.NoTask, lambda: tree.move("one", thing), name=thing)
            self.refused(errors.NoTask, lambda: tree.move("all", thing), name=thing)
        for parent in tree.tasks():
            self.refused(errors.TopTask, lambda: tree.move("all", parent), name="all")
        for parent in ["left", "one", "two"]:
            self.refused(errors.Below, lambda: tree.move("left", parent), name=parent)
        self.refused(errors.Below, lambda: tree.move("right", "right"), name="right")
        self.assertEqual(everything(tree), before)

    def test_kinds_that_may_not_be_parts(self):
        tree = Tree(work(), "top", "task", "open")
        tree.add("top", "a", "step", "open")
        tree.add("top", "b", "task", "open")
        self.refused(errors.BadPart, lambda: tree.move("b", "a"), kind="task")
        tree.add("b", "c", "step", "open")
        self.refused(errors.BadPart, lambda: tree.move("c", "a"), kind="step")
        self.refused(errors.LastPart, lambda: tree.move("c", "top"), name="c")
        self.refused(errors.Below, lambda: tree.move("b", "c"), name="c")
        self.assertEqual(tree.move("a", "b"), [])

    def test_marks_go_along(self):
        tree = tree_of_lights()
        tree.soften("left", "red")
        self.assertEqual(tree.move("left", "right"), [("right", "red")])
        self.assertEqual(tree.mark_at("left"), ("soft", "red"))


class Marks(TreeTest):
    def test_held_marks_stay(self):
        tree = tree_of_lights()
        self.assertEqual(tree.hold("all", "green"), [("all", "green")])
        self.assertEqual(tree.put("one", "red"), [("left", "red"), ("one", "red")])
        self.assertEqual([tree.mark_at("all"), tree.told_at("all"), tree.state_at("all")], [("held", "green"), "red", "green"])
        self.assertEqual(tree.strike("left"), [])
        self.assertEqual(tree.free("all"), [])

    def test_soft_marks_go_with_another_state_from_below(self):
        tree = tree_of_lights()
        self.assertEqual(tree.soften("all", "red"), [("all", "red")])
        self.assertEqual(tree.put("right", "amber"), [("right", "amber")])
        self.assertEqual(tree.mark_at("all"), ("soft", "red"))
        self.assertEqual(tree.put_all([("right", "green"), ("two", "green")]), [("all", "green"), ("left", "green"), ("right", "green"), ("two", "green")])
        self.assertIsNone(tree.mark_at("all"))

    def test_a_soft_mark_goes_though_the_state_is_the_same(self):
        tree = tree_of_lights()
        tree.soften("all", "red")
        self.assertEqual(tree.put("one", "red"), [("left", "red"), ("one", "red")])
        self.assertEqual([tree.mark_at("all"), tree.state_at("all")], [None, "red"])

    def test_a_soft_mark_behind_a_held_one_stays(self):
        tree = tree_of_lights()
        tree.soften("all", "red")
        tree.hold("left", "amber")
        self.assertEqual(tree.put("one", "red"), [("one", "red")])
        self.assertEqual([tree.mark_at("all"), tree.mark_at("left")], [("soft", "red"), ("held", "amber")])

    def test_a_soft_mark_below_goes_first(self):
        """The mark below goes, and its task has a state again that is none of those before; so the one above goes, too."""
        tree = tree_of_lights()
        tree.soften("left", "amber")
        tree.soften("all", "green")
        self.assertEqual(tree.put("one", "red"), [("all", "red"), ("left", "red"), ("one", "red")])
        self.assertEqual([tree.mark_at("left"), tree.mark_at("all")], [None, None])

    def test_a_soft_mark_above_stays_if_the_task_below_has_its_state_again(self):
        """The mark below goes, but its task has the state of the mark by what comes from below it now."""
        tree = tree_of_lights()
        tree.soften("left", "red")
        tree.soften("all", "green")
        self.assertEqual(tree.put("one", "red"), [("one", "red")])
        self.assertEqual([tree.mark_at("left"), tree.mark_at("all"), tree.state_at("left")], [None, ("soft", "green"), "red"])

    def test_giving_a_mark_below_takes_a_soft_one_above_away(self):
        for deed in ["hold", "soften"]:
            tree = tree_of_lights()
            tree.soften("all", "green")
            self.assertEqual(getattr(tree, deed)("left", "red"), [("all", "red"), ("left", "red")])
            self.assertEqual([tree.mark_at("all"), tree.mark_at("left")[1]], [None, "red"])
            tree.soften("all", "green")
            self.assertEqual(tree.free("left"), [("all", "amber"), ("left", "amber")])
            self.assertIsNone(tree.mark_at("all"))

    def test_a_mark_that_is_got_by_the_deed_stays(self):
        tree = tree_of_lights()
        tree.soften("all", "red")
        self.assertEqual(tree.soften("all", "green"), [("all", "green")])
        self.assertEqual(tree.soften(state="green", name="all"), [])
        self.assertEqual(tree.mark_at("all"), ("soft", "green"))

    def test_in_the_place_of_its_own(self):
        tree = tree_of_lights()
        tree.soften("all", "red")
        self.assertEqual(tree.hold("all", "red"), [])
        self.assertEqual(tree.mark_at("all"), ("held", "red"))
        self.assertEqual(tree.soften("all", "amber"), [("all", "amber")])
        self.assertEqual(tree.mark_at("all"), ("soft", "amber"))
        self.assertEqual(tree.free(name="all"), [])
        self.assertIsNone(tree.mark_at("all"))

    def test_any_state_of_the_book(self):
        """A mark may have a state that no task of this kind has without it."""
        tree = Tree(work(), "top", "task", "open")
        tree.add("top", "a", "step", "open")
        self.assertEqual(tree.hold(name="top", state="alert"), [("top", "alert")])
        tree = Tree(levels(7), "top", "level", "a")
        tree.add("top", "a", "level", "a")
        self.assertEqual(tree.soften("top", "g"), [("top", "g")])

    def test_what_is_refused(self):
        tree = tree_of_lights()
        before = everything(tree)
        for deed in [tree.hold, tree.soften]:
            for thing in NO_TASKS:
                self.refused(errors.NoTask, lambda: deed(thing, None), name=thing)
            for name in ["one", "two", "right"]:
                self.refused(errors.NoParts, lambda: deed(name, "blue"), name=name)
                self.refused(errors.NoParts, lambda: deed(name, "red"), name=name)
            for thing in NO_STATES:
                self.refused(errors.BadState, lambda: deed("all", thing), state=thing)
        for thing in NO_TASKS:
            self.refused(errors.NoTask, lambda: tree.free(thing), name=thing)
        for name in tree.tasks():
            self.refused(errors.NoMark, lambda: tree.free(name), name=name)
        self.assertEqual(everything(tree), before)


class UndoAndAgain(TreeTest):
    DEEDS = [
        ("add", ("right", "new", "unit", "red")), ("add", ("all", "new", "unit", "green")), ("put", ("one", "red")), ("put", ("one", "green")),
        ("put_all", ([("one", "red"), ("two", "red")],)), ("put_all", ([],)), ("strike", ("left",)), ("strike", ("two",)),
        ("move", ("left", "right")), ("move", ("two", "right")), ("move", ("one", "left")), ("hold", ("all", "green")), ("hold", ("left", "red")),
        ("soften", ("all", "green")), ("soften", ("left", "red")), ("free", ("left",)),
    ]

    def test_each_sort_of_deed(self):
        for deed, arguments in self.DEEDS:
            with self.subTest([deed, arguments]):
                tree = tree_of_lights()
                tree.soften("left", "green")
                tree.soften("all", "red")
                before = everything(tree)
                news = getattr(tree, deed)(*arguments)
                behind = everything(tree)
                back = tree.undo()
                self.assertEqual(everything(tree), before)
                self.assertEqual(back, [(name, row[1]) for name, row in sorted(before.items()) if name not in behind or behind[name][1] != row[1]])
                self.assertEqual(tree.again(), news)
                self.assertEqual(everything(tree), behind)
                self.refused(errors.NoDeed, tree.again)
                tree.undo()
                self.assertEqual(everything(tree), before)

    def test_none(self):
        tree = Tree(lights(), "all", "unit", "green")
        self.refused(errors.NoDeed, tree.undo)
        self.refused(errors.NoDeed, tree.again)
        tree.put("all", "red")
        self.refused(errors.NoDeed, tree.again)
        self.assertEqual(tree.undo(), [("all", "green")])
        self.refused(errors.NoDeed, tree.undo)
        self.assertEqual(tree.again(), [("all", "red")])
        self.refused(errors.NoDeed, tree.again)

    def test_several(self):
        tree = tree_of_lights()
        told = []
        while len(tree) > 1:
            told.append(tree.undo())
        self.assertEqual(told, [[("all", "green"), ("left", "green")], [("all", "red"), ("left", "red")], [], [("all", "green")]])
        self.refused(errors.NoDeed, tree.undo)
        told = [tree.again() for step in range(4)]
        self.assertEqual(told, [[("all", "red"), ("left", "red")], [("right", "green")], [("all", "green"), ("left", "green"), ("one", "green")],
                                [("all", "amber"), ("left", "amber"), ("two", "amber")]])
        self.assertEqual(everything(tree), everything(tree_of_lights()))

    def test_another_deed_ends_what_can_be_done_again(self):
        for deed, arguments in [("put", ("one", "green")), ("put_all", ([],)), ("move", ("one", "left"))]:
            tree = tree_of_lights()
            tree.put("one", "red")
            tree.undo()
            getattr(tree, deed)(*arguments)
            self.refused(errors.NoDeed, tree.again)
            self.assertEqual(tree.undo(), [])
            self.assertEqual(tree.undo(), [("all", "green"), ("left", "green")])

    def test_deeds_that_change_nothing_are_undone_too(self):
        tree = Tree(lights(), "all", "unit", "green")
        tree.put("all", "red")
        tree.put("all", "red")
        tree.put_all([])
        self.assertEqual([tree.undo(), tree.undo(), tree.undo(), tree.again()], [[], [], [("all", "green")], [("all", "red")]])

    def test_marks_come_back(self):
        tree = tree_of_lights()
        tree.soften("left", "green")
        tree.hold("all", "red")
        tree.soften("all", "amber")
        tree.put("one", "red")
        self.assertEqual([tree.mark_at("left"), tree.mark_at("all")], [None, None])
        self.assertEqual(tree.undo(), [("all", "amber"), ("left", "green"), ("one", "green")])
        self.assertEqual([tree.mark_at("left"), tree.mark_at("all")], [("soft", "green"), ("soft", "amber")])
        tree.undo()
        self.assertEqual([tree.mark_at("left"), tree.mark_at("all")], [("soft", "green"), ("held", "red")])
        tree.again()
        tree.again()
        self.assertEqual([tree.mark_at("left"), tree.mark_at("all")], [None, None])

    def test_calls_that_are_refused_change_nothing(self):
        calls = [("add", ("all", "one", "unit", "red")), ("put", ("all", "red")), ("put_all", ([("one", "red"), ("none", "red")],)),
                 ("strike", ("all",)), ("move", ("left", "one")), ("hold", ("one", "red")), ("soften", ("all", "blue")), ("free", ("left",)),
                 ("state_at", ("none",))]
        tree = tree_of_lights()
        tree.soften("all", "red")
        tree.put("right", "amber")
        tree.undo()
        before = everything(tree)
        for deed, arguments in calls:
            with self.assertRaises(errors.PartsError):
                getattr(tree, deed)(*arguments)
            self.assertEqual(everything(tree), before)
        self.assertEqual(tree.again(), [("right", "amber")])
        self.refused(errors.NoDeed, tree.again)
        self.assertEqual([tree.undo(), tree.undo()], [[("right", "green")], [("all", "amber")]])


class Large(TreeTest):
    def test_sixty_tasks_one_below_the_other(self):
        tree = Tree(levels(3), "a", "level", "a")
        names = [first + second for first in "abcdef" for second in "abcdefghij"][:59]
        for parent, name in zip(["a", *names], names):
            tree.add(parent, name, "level", "a")
        self.assertEqual([len(tree), tree.state_at("a"), tree.state_at(names[-2])], [60, "abc"[59 % 3], "b"])
        tree.soften(names[29], tree.state_at(names[29]))
        self.assertEqual(len(tree.hold(names[-2], "a")), 59)
        self.assertIsNone(tree.mark_at(names[29]))
        self.assertEqual(len(tree.undo()), 59)
        self.refused(errors.Below, lambda: tree.move(names[0], names[-1]), name=names[-1])

    def test_sixty_tasks_side_by_side(self):
        tree = Tree(votes(9), "top", "vote", "no")
        names = [first + second for first in "abcdef" for second in "abcdefghij"][:59]
        for name in names:
            tree.add("top", name, "vote", "no")
        news = tree.put_all([(name, "yes") for name in names[:9]])
        self.assertEqual(news, [*[(name, "yes") for name in names[:9]], ("top", "yes")])
        self.assertEqual([len(tree), tree.parts_at("top")], [60, names])


class AnotherWay(unittest.TestCase):
    """Long rows of drawn deeds, some of them wrong, beside another way of telling the same."""

    NAMES = ["a", "b", "c", "d", "e", "f", "g", "h", "i", "j"]

    def test_drawn_deeds(self):
        counts = {"done": 0, "refused": 0, "soft marks that went": 0}
        for seed, book in enumerate([work(), lights(), ticks(), votes(2), levels(4), barren(), *[brute.random_book(seed) for seed in range(60)]]):
            tops = [name for name in book.names if book.kind_named(name).hand and book.kind_named(name).parts]
            if tops:
                chance = random.Random(seed)
                kind = max(tops, key=lambda name: len(book.kind_named(name).parts))
                arguments = book, "a", kind, chance.choice(book.kind_named(kind).hand)
                with self.subTest(seed):
                    self.compare(Tree(*arguments), Model(*arguments), chance, counts)
        self.assertGreater(min(counts.values()), 300, counts)

    def compare(self, tree, model, chance, counts):
        """Does a long row of drawn deeds with both, and compares all that is told behind each of them."""
        for step in range(600):
            deed, arguments = self.drawn(model, chance)
            error = model.wrong(deed, *arguments)
            marked = [name for name in model.tasks if model.tasks[name]["mark"]]
            counts["refused" if error else "done"] += 1
            if error:
                with self.assertRaises(type(error)) as caught:
                    getattr(tree, deed)(*arguments)
                self.assertEqual(vars(caught.exception), vars(error))
            else:
                self.assertEqual(getattr(tree, deed)(*arguments), model.do(deed, *arguments), [deed, arguments])
            if deed not in ["undo", "again", "free"]:
                counts["soft marks that went"] += len([name for name in marked if name in model.tasks and not model.tasks[name]["mark"]])
            self.assertEqual(everything(tree), model.everything())
            self.assertEqual([tree.tasks(), len(tree)], [sorted(model.tasks), len(model.tasks)])

    def drawn(self, model, chance):
        """Returns a deed and its arguments, which are more often right than wrong."""
        names = sorted(model.tasks)
        with_parts = [name for name in names if model.parts(name)]
        deed = chance.choice(["add"] * 6 + ["put"] * 3 + ["put_all"] * 6 + ["strike", "move", "move", "hold"] + ["soften"] * 8
                             + ["free", "undo", "undo", "again", "again"])
        if deed in ["undo", "again"]:
            return deed, ()
        name = chance.choice((with_parts or names) * 6 + self.NAMES if deed in ["hold", "soften", "free"] else names * 6 + self.NAMES)
        if deed == "add":
            new = [other for other in self.NAMES if other not in names] * 6 + self.NAMES
            kinds = list(model.kind(name).parts) * 6 if name in names else []
            kind = chance.choice([*kinds, *model.book.names])
            return deed, (name, chance.choice(new), kind, chance.choice([*model.book.kind_named(kind).hand * 6, *model.book.states]))
        if deed == "put":
            return deed, self.drawn_pair(model, chance)
        if deed == "put_all":
            return deed, ([self.drawn_pair(model, chance) for step in range(chance.randrange(4))],)
        if deed == "move":
            return deed, (name, chance.choice(names * 6 + self.NAMES))
        return deed, (name,) if deed in ["strike", "free"] else (name, chance.choice([*model.book.states * 6, "nothing"]))

    def drawn_pair(self, model, chance):
        """Returns a name and a state, more often right than wrong."""
        name = chance.choice([name for name in sorted(model.tasks) if not model.parts(name)] * 8 + self.NAMES)
        hand = model.kind(name).hand if name in model.tasks else ()
        return name, chance.choice([*hand * 8, *model.book.states])


if __name__ == "__main__":
    unittest.main()
