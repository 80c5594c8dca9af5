"""Kinds of tasks and books of them (points 3 to 6)."""

from partstold.errors import BadBook, BadKind, UnknownKind
from partstold.forms import are_clauses, are_names, is_name
from partstold.texts import MOST_KINDS, kind_lines, read_kinds

MOST_STATES = 8


class Kind:
    """An immutable kind of task: hand states, kinds of parts, clauses, a last state."""

    def __init__(self, hand, parts, clauses, last):
        if not are_names(hand):
            raise BadKind("hand")
        if not are_names(parts) or len(hand) + len(parts) == 0:
            raise BadKind("parts")
        if not are_clauses(clauses):
            raise BadKind("clauses")
        if not is_name(last):
            raise BadKind("last")
        self.hand_states = tuple(sorted(hand))
        self.part_kinds = tuple(sorted(parts))
        self.clause_row = tuple([copied_clause(clause) for clause in clauses])
        self.last_state = last

    @property
    def hand(self):
        """The hand states, ascending."""
        return self.hand_states

    @property
    def parts(self):
        """The kinds that the parts may be, ascending."""
        return self.part_kinds

    @property
    def clauses(self):
        """The clauses in order, the states of each condition ascending."""
        return self.clause_row

    @property
    def last(self):
        """The state if no clause fits."""
        return self.last_state

    def __eq__(self, other):
        return (
            isinstance(other, Kind)
            and self.hand_states == other.hand_states
            and self.part_kinds == other.part_kinds
            and self.clause_row == other.clause_row
            and self.last_state == other.last_state
        )

    def told(self, states):
        """Returns the state of a task whose parts have the states of a list."""
        index = self.counting(states)
        if index == len(self.clause_row):
            return self.last_state
        return self.clause_row[index][0]

    def counting(self, states):
        """Returns the index of the clause that counts, behind all clauses for the last state."""
        for index, (state, conditions) in enumerate(self.clause_row):
            if all([holds(condition, states) for condition in conditions]):
                return index
        return len(self.clause_row)


class Book:
    """An immutable book: a dict from names to kinds of tasks."""

    def __init__(self, kinds):
        if not are_kinds(kinds):
            raise BadBook("kinds")
        if not all([part in kinds for kind in kinds.values() for part in kind.parts]):
            raise BadBook("parts")
        states = sorted({state for kind in kinds.values() for state in states_in(kind)})
        if len(states) > MOST_STATES:
            raise BadBook("states")
        self.kinds_by_name = {name: kinds[name] for name in sorted(kinds)}
        self.name_row = tuple(sorted(kinds))
        self.state_row = tuple(states)

    @property
    def names(self):
        """The names of the kinds, ascending."""
        return self.name_row

    @property
    def states(self):
        """The states, ascending."""
        return self.state_row

    def __eq__(self, other):
        return isinstance(other, Book) and self.kinds_by_name == other.kinds_by_name

    def kind_named(self, name):
        """Returns the kind with a name."""
        if not is_name(name) or name not in self.kinds_by_name:
            raise UnknownKind(name)
        return self.kinds_by_name[name]

    def text(self):
        """Returns the text of the book."""
        lines = []
        for name, kind in self.kinds_by_name.items():
            lines.extend(kind_lines(name, kind))
        return "\n".join(lines)

    @classmethod
    def parse(cls, text):
        """Returns the book that has a text."""
        kinds = {}
        for name, hand, parts, clauses, last in read_kinds(text):
            kinds[name] = Kind(hand, parts, clauses, last)
        return cls(kinds)


def copied_clause(clause):
    """Returns a clause of tuples, with the states of its conditions in ascending order."""
    state, conditions = clause
    return state, tuple([(least, most, tuple(sorted(names))) for least, most, names in conditions])


def holds(condition, states):
    """Tells whether a condition holds for parts with the states of a list."""
    least, most, wanted = condition
    many = len([state for state in states if state in wanted])
    return least <= many and (most is None or many <= most)


def are_kinds(thing):
    """Tells whether a thing is a dict of so many kinds under names as a book may have."""
    if not isinstance(thing, dict) or not 1 <= len(thing) <= MOST_KINDS:
        return False
    return all([is_name(name) and isinstance(kind, Kind) for name, kind in thing.items()])


def states_in(kind):
    """Returns all states that a kind names, some of them perhaps several times."""
    states = [*kind.hand, kind.last]
    for state, conditions in kind.clauses:
        states.append(state)
        for least, most, names in conditions:
            states.extend(names)
    return states
