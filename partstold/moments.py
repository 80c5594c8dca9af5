"""Trees at one moment: what is set at their tasks, and what comes of it (points 21 to 23)."""

HELD = "held"
SOFT = "soft"


class Moment:
    """A tree at one moment. It is not changed; what is done to the tree makes a new moment.

    It has dicts from the names of the tasks: to their kinds, to the tasks above them (None for the top task),
    to the hand states of those without parts, and to marks, parts, told states and states.
    """

    def __init__(self, book, kinds, above, hands, marks, before):
        """Makes a moment, in which some of the marks go; before it was another one, or None."""
        self.own_book = book
        self.kind_by_name = kinds
        self.above_by_name = above
        self.hand_by_name = hands
        self.mark_by_name = {}
        self.parts_by_name = parts_of_tasks(above)
        self.told_by_name = {}
        self.state_by_name = {}
        top = [name for name in above if above[name] is None][0]
        # All parts of a task come ahead of it in this order.
        for name in reversed(self.names_from(top)):
            self.follow_up(name, marks.get(name), before)

    def follow_up(self, name, mark, before):
        """Finds the state of a task, and whether its mark stays, from the states of its parts."""
        parts = self.parts_by_name[name]
        if len(parts) == 0:
            self.state_by_name[name] = self.hand_by_name[name]
            return
        told = self.own_kind(name).told([self.state_by_name[part] for part in parts])
        self.told_by_name[name] = told
        self.state_by_name[name] = told
        # What comes from below a task is the same before and behind the deed that gives a mark to it;
        # so a new soft mark stays.
        if mark is not None and (mark[0] == HELD or told == before.told_by_name[name]):
            self.mark_by_name[name] = mark
            self.state_by_name[name] = mark[1]

    def own_kind(self, name):
        """Returns the kind of a task."""
        return self.own_book.kind_named(self.kind_by_name[name])

    def names_from(self, name):
        """Returns the list of a task and all tasks below it, each ahead of its parts."""
        below = [self.names_from(part) for part in self.parts_by_name[name]]
        return [name] + [other for names in below for other in names]

    def branch_from(self, name):
        """Returns the branch of a task."""
        parts = self.parts_by_name[name]
        if len(parts) == 0:
            return self.kind_by_name[name], self.hand_by_name[name]
        return self.kind_by_name[name], tuple([self.branch_from(part) for part in parts])

    def news_since(self, before):
        """Returns the ascending list of the tasks that are new or have another state than before, with their states."""
        states = sorted(self.state_by_name.items())
        return [(name, state) for name, state in states if before.state_by_name.get(name) != state]

    def with_task(self, parent, name, kind, state):
        """Returns the moment behind the deed that adds a task."""
        kinds = {**self.kind_by_name, name: kind}
        above = {**self.above_by_name, name: parent}
        hands = without(self.hand_by_name, [parent])
        hands[name] = state
        return Moment(self.own_book, kinds, above, hands, self.mark_by_name, self)

    def with_hand_states(self, rows):
        """Returns the moment behind the deed that sets tasks to hand states, in the order of the rows."""
        hands = dict(self.hand_by_name)
        for name, state in rows:
            hands[name] = state
        return Moment(self.own_book, self.kind_by_name, self.above_by_name, hands, self.mark_by_name, self)

    def without_task(self, name):
        """Returns the moment behind the deed that strikes a task."""
        gone = self.names_from(name)
        kinds, above = without(self.kind_by_name, gone), without(self.above_by_name, gone)
        hands, marks = without(self.hand_by_name, gone), without(self.mark_by_name, gone)
        return Moment(self.own_book, kinds, above, hands, marks, self)

    def with_task_moved(self, name, parent):
        """Returns the moment behind the deed that moves a task."""
        above = {**self.above_by_name, name: parent}
        hands = without(self.hand_by_name, [parent])
        return Moment(self.own_book, self.kind_by_name, above, hands, self.mark_by_name, self)

    def with_mark(self, name, mark):
        """Returns the moment behind the deed that gives a mark to a task, or takes it away if the mark is None."""
        marks = without(self.mark_by_name, [name]) if mark is None else {**self.mark_by_name, name: mark}
        return Moment(self.own_book, self.kind_by_name, self.above_by_name, self.hand_by_name, marks, self)


def first_moment(book, name, kind, state):
    """Returns the moment at which a tree has only a top task without parts."""
    return Moment(book, {name: kind}, {name: None}, {name: state}, {}, None)


def parts_of_tasks(above):
    """Returns a dict from the names of tasks to the ascending lists of the names of their parts."""
    parts = {name: [] for name in above}
    for name in sorted(above):
        if above[name] is not None:
            parts[above[name]].append(name)
    return parts


def without(rows, names):
    """Returns a copy of a dict without some names."""
    return {name: row for name, row in rows.items() if name not in names}
