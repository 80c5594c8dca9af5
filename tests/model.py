"""Another way of telling a tree that changes: each state is found anew from what was set, and each deed keeps a copy."""

import copy

from partstold import errors


def is_name(thing):
    return isinstance(thing, str) and thing.isascii() and thing.isalpha() and thing.islower() and len(thing) <= 8


class Model:
    """A tree whose tasks are dicts with the keys kind, above, hand and mark."""

    def __init__(self, book, name, kind, state):
        self.book = book
        self.top = name
        self.tasks = {name: {"kind": kind, "above": None, "hand": state, "mark": None}}
        self.past = []
        self.future = []

    def is_task(self, thing):
        return isinstance(thing, str) and thing in self.tasks

    def kind(self, name):
        return self.book.kind_named(self.tasks[name]["kind"])

    def parts(self, name):
        return sorted(other for other in self.tasks if self.tasks[other]["above"] == name)

    def told(self, name):
        parts = self.parts(name)
        return self.kind(name).told([self.state(part) for part in parts]) if parts else None

    def state(self, name):
        if self.tasks[name]["mark"]:
            return self.tasks[name]["mark"][1]
        return self.told(name) or self.tasks[name]["hand"]

    def above(self, name):
        """Returns the list of a task and all tasks above it."""
        return [] if name is None else [name, *self.above(self.tasks[name]["above"])]

    def below(self, name):
        """Returns the list of a task and all tasks below it."""
        return [other for other in self.tasks if name in self.above(other)]

    def branch(self, name):
        parts = self.parts(name)
        return self.tasks[name]["kind"], tuple(self.branch(part) for part in parts) if parts else self.tasks[name]["hand"]

    def states(self):
        return {name: self.state(name) for name in self.tasks}

    def everything(self):
        """Returns all that a tree tells of its tasks."""
        return {name: (task["kind"], self.state(name), self.told(name), task["mark"], self.parts(name), task["above"],
                       self.branch(name)) for name, task in self.tasks.items()}

    def wrong(self, deed, *arguments):
        """Returns the error that a deed raises, None if it raises none."""
        if deed in ["undo", "again"]:
            return None if (self.past if deed == "undo" else self.future) else errors.NoDeed()
        if deed == "put":
            return self.wrong("put_all", [arguments])
        if deed == "put_all":
            wrong = [self.wrong_hand(*pair) for pair in arguments[0]]
            return next((error for error in wrong if error), None)
        if not self.is_task(arguments[0]):
            return errors.NoTask(arguments[0])
        return getattr(self, "wrong_" + deed)(*arguments)

    def wrong_hand(self, name, state):
        if not self.is_task(name):
            return errors.NoTask(name)
        if self.parts(name):
            return errors.HasParts(name)
        return None if isinstance(state, str) and state in self.kind(name).hand else errors.BadState(state)

    def wrong_add(self, parent, name, kind, state):
        if not is_name(name):
            return errors.BadName(name)
        if self.is_task(name):
            return errors.Taken(name)
        if not isinstance(kind, str) or kind not in self.kind(parent).parts:
            return errors.BadPart(kind)
        return None if isinstance(state, str) and state in self.book.kind_named(kind).hand else errors.BadState(state)

    def wrong_strike(self, name):
        if name == self.top:
            return errors.TopTask(name)
        return errors.LastPart(name) if len(self.parts(self.tasks[name]["above"])) == 1 else None

    def wrong_move(self, name, parent):
        if not self.is_task(parent):
            return errors.NoTask(parent)
        if name == self.top:
            return errors.TopTask(name)
        if name in self.above(parent):
            return errors.Below(parent)
        if self.tasks[name]["kind"] not in self.kind(parent).parts:
            return errors.BadPart(self.tasks[name]["kind"])
        above = self.tasks[name]["above"]
        return errors.LastPart(name) if above != parent and len(self.parts(above)) == 1 else None

    def wrong_hold(self, name, state):
        if not self.parts(name):
            return errors.NoParts(name)
        return None if isinstance(state, str) and state in self.book.states else errors.BadState(state)

    wrong_soften = wrong_hold

    def wrong_free(self, name):
        return None if self.tasks[name]["mark"] else errors.NoMark(name)

    def do(self, deed, *arguments):
        """Does a deed that raises no error. Returns the news."""
        before = self.states()
        if deed in ["undo", "again"]:
            source, target = (self.past, self.future) if deed == "undo" else (self.future, self.past)
            target.append(self.tasks)
            self.tasks = source.pop()
        else:
            self.past.append(copy.deepcopy(self.tasks))
            self.future = []
            told = {name: self.told(name) for name in self.tasks}
            getattr(self, "do_" + deed)(*arguments)
            self.follow_up(told, arguments[0] if deed == "soften" else None)
        return sorted((name, state) for name, state in self.states().items() if before.get(name) != state)

    def follow_up(self, told, new):
        """Takes soft marks away, those below first; told is what came from below before the deed."""
        for name in sorted(self.tasks, key=lambda name: -len(self.above(name))):
            mark = self.tasks[name]["mark"]
            if mark and mark[0] == "soft" and name != new and self.told(name) != told[name]:
                self.tasks[name]["mark"] = None

    def do_add(self, parent, name, kind, state):
        self.tasks[name] = {"kind": kind, "above": parent, "hand": state, "mark": None}
        self.tasks[parent]["hand"] = None

    def do_put(self, name, state):
        self.tasks[name]["hand"] = state

    def do_put_all(self, pairs):
        for name, state in pairs:
            self.tasks[name]["hand"] = state

    def do_strike(self, name):
        gone = self.below(name)
        self.tasks = {other: task for other, task in self.tasks.items() if other not in gone}

    def do_move(self, name, parent):
        self.tasks[name]["above"] = parent
        self.tasks[parent]["hand"] = None

    def do_hold(self, name, state):
        self.tasks[name]["mark"] = ("held", state)

    def do_soften(self, name, state):
        self.tasks[name]["mark"] = ("soft", state)

    def do_free(self, name):
        self.tasks[name]["mark"] = None
