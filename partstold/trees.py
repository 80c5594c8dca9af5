"""Trees that change, with marks that hold a state against what comes from below (points 21 to 24)."""

from partstold.checks import check_states, is_one_of
from partstold.errors import (
    BadName, BadPart, Below, HasParts, LastPart, NoDeed, NoMark, NoParts, NoTask, Taken, TopTask,
)
from partstold.forms import is_name
from partstold.moments import HELD, SOFT, first_moment


class Tree:
    """A tree of tasks with names, which begins with its top task alone."""

    def __init__(self, book, name, kind, state):
        if not is_name(name):
            raise BadName(name)
        check_states(book.kind_named(kind).hand, [state])
        self.own_book = book
        self.top_name = name
        self.now = first_moment(book, name, kind, state)
        self.past = []
        self.future = []

    @property
    def book(self):
        """The book of the tree."""
        return self.own_book

    @property
    def top(self):
        """The name of the top task."""
        return self.top_name

    def __len__(self):
        """The number of tasks."""
        return len(self.now.kind_by_name)

    def __contains__(self, x):
        """Tells whether any object is the name of a task."""
        return is_one_of(x, self.now.kind_by_name)

    def tasks(self):
        """Returns the ascending list of the names of the tasks."""
        return sorted(self.now.kind_by_name)

    def kind_at(self, name):
        """Returns the kind of a task."""
        self.check_task(name)
        return self.now.kind_by_name[name]

    def state_at(self, name):
        """Returns the state of a task."""
        self.check_task(name)
        return self.now.state_by_name[name]

    def told_at(self, name):
        """Returns what comes from below a task, None if it has no parts."""
        self.check_task(name)
        return self.now.told_by_name.get(name)

    def mark_at(self, name):
        """Returns the mark of a task, None if it has none."""
        self.check_task(name)
        return self.now.mark_by_name.get(name)

    def parts_at(self, name):
        """Returns the ascending list of the names of the parts of a task."""
        self.check_task(name)
        return list(self.now.parts_by_name[name])

    def task_above(self, name):
        """Returns the name of the task above a task, None for the top task."""
        self.check_task(name)
        return self.now.above_by_name[name]

    def branch_at(self, name):
        """Returns the branch of a task, without marks."""
        self.check_task(name)
        return self.now.branch_from(name)

    def add(self, parent, name, kind, state):
        """Adds a task as a part of a task. Returns the news, as all deeds do."""
        self.check_task(parent)
        if not is_name(name):
            raise BadName(name)
        if name in self:
            raise Taken(name)
        if not is_one_of(kind, self.now.own_kind(parent).parts):
            raise BadPart(kind)
        check_states(self.own_book.kind_named(kind).hand, [state])
        return self.go_on(self.now.with_task(parent, name, kind, state))

    def put(self, name, state):
        """Sets a task without parts to a hand state."""
        return self.put_all([(name, state)])

    def put_all(self, pairs):
        """Sets several tasks at once, for pairs of a name and a state."""
        for name, state in pairs:
            self.check_task(name)
            if self.has_parts(name):
                raise HasParts(name)
            check_states(self.now.own_kind(name).hand, [state])
        return self.go_on(self.now.with_hand_states(pairs))

    def strike(self, name):
        """Strikes a task with everything below it."""
        self.check_task(name)
        self.check_below_top(name)
        if self.is_only_part(name):
            raise LastPart(name)
        return self.go_on(self.now.without_task(name))

    def move(self, name, parent):
        """Moves a task with everything below it."""
        self.check_task(name)
        self.check_task(parent)
        self.check_below_top(name)
        if parent in self.now.names_from(name):
            raise Below(parent)
        kind = self.now.kind_by_name[name]
        if kind not in self.now.own_kind(parent).parts:
            raise BadPart(kind)
        if parent != self.now.above_by_name[name] and self.is_only_part(name):
            raise LastPart(name)
        return self.go_on(self.now.with_task_moved(name, parent))

    def hold(self, name, state):
        """Gives a task with parts a held mark."""
        self.check_marking(name, state)
        return self.go_on(self.now.with_mark(name, (HELD, state)))

    def soften(self, name, state):
        """Gives a task with parts a soft mark."""
        self.check_marking(name, state)
        return self.go_on(self.now.with_mark(name, (SOFT, state)))

    def free(self, name):
        """Takes the mark of a task away."""
        self.check_task(name)
        if name not in self.now.mark_by_name:
            raise NoMark(name)
        return self.go_on(self.now.with_mark(name, None))

    def undo(self):
        """Undoes the last deed. Returns the news between the tree ahead of this call and behind it."""
        if len(self.past) == 0:
            raise NoDeed()
        self.future.append(self.now)
        return self.turn_to(self.past.pop())

    def again(self):
        """Does the deed again that was undone last. Returns the news as undo does."""
        if len(self.future) == 0:
            raise NoDeed()
        self.past.append(self.now)
        return self.turn_to(self.future.pop())

    def go_on(self, moment):
        """Goes on to the moment behind a new deed. Returns the news."""
        self.past.append(self.now)
        self.future = []
        return self.turn_to(moment)

    def turn_to(self, moment):
        """Makes a moment the one that the tree is at. Returns the news."""
        before = self.now
        self.now = moment
        return moment.news_since(before)

    def has_parts(self, name):
        """Tells whether a task has parts."""
        return len(self.now.parts_by_name[name]) > 0

    def is_only_part(self, name):
        """Tells whether a task is the only part of the task above it."""
        return self.now.parts_by_name[self.now.above_by_name[name]] == [name]

    def check_task(self, name):
        """Raises NoTask for any object that is not the name of a task."""
        if name not in self:
            raise NoTask(name)

    def check_below_top(self, name):
        """Raises TopTask for the name of the top task."""
        if name == self.top_name:
            raise TopTask(name)

    def check_marking(self, name, state):
        """Raises an error if a task cannot get a mark with a state."""
        self.check_task(name)
        if not self.has_parts(name):
            raise NoParts(name)
        check_states(self.own_book.states, [state])
