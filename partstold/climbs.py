"""Climbs: from the states of a task to those of the tasks above it (points 11 to 16).

A row is a tuple of states that one task has, one at a time. The row of the task above is told by
the row alone, for each choice of the other parts; so the search for surroundings is one among rows.
"""

from partstold.leasts import chosen_others, counts_of_others, least_branches, least_parts
from partstold.rules import rules_of


class Ways:
    """The ways that lead from a part to the task above it, in the branches of a book.

    A way of a kind is a tuple of the size of the other parts, of these parts, and of a dict from the
    states of the part to the states of the task.
    """

    def __init__(self, book):
        self.rules = rules_of(book)
        self.leasts = least_branches(self.rules)
        self.all_ways = {}
        for name, rule in self.rules.items():
            ways = ways_of(rule, least_parts(rule, self.leasts))
            self.all_ways[name] = unlike_ways(ways, book.states)
        self.ways_by_states = {}

    def possible_states(self, name):
        """Returns the ascending tuple of the states that are possible for a kind."""
        return tuple(sorted(self.leasts[name]))

    def ways_from(self, name, states):
        """Returns least ways of a kind, one for each thing they can do with some states of the part."""
        key = (name, states)
        if key not in self.ways_by_states:
            self.ways_by_states[key] = unlike_ways(self.all_ways[name], states)
        return self.ways_by_states[key]

    def steps(self, name, row):
        """Returns all steps from a task with a row to a task above it.

        A step is a tuple of the kind and the row of the task above, and of the size and the tuple of the other parts.
        """
        states = tuple(sorted(set(row)))
        steps = []
        for above, rule in self.rules.items():
            if name in rule.part_kinds:
                for size, others, told in self.ways_from(above, states):
                    steps.append((above, tuple([told[state] for state in row]), size, others))
        return steps


def ways_of(rule, parts):
    """Returns the ways of a kind, for all counts of the other parts."""
    ways = []
    for counts, size in counts_of_others(rule, parts):
        told = {state: rule.told_with(counts, state) for state in rule.state_row}
        ways.append((size, chosen_others(rule, parts, counts), told))
    return ways


def unlike_ways(ways, states):
    """Returns, of all ways that do the same with some states of the part, the one with the least other parts."""
    best = {}
    for way in ways:
        row = tuple([way[2][state] for state in states])
        if row not in best or way[0] < best[row][0]:
            best[row] = way
    return list(best.values())


def climbed(ways, starts):
    """Returns a dict from pairs of a kind and a row, those of a top task, to least surroundings.

    The starts are such pairs of the hole. The surroundings come in ascending order of their size.
    """
    found = {}
    sizes = {start: 0 for start in starts}
    waiting = {0: [(start, ()) for start in starts]}
    while len(waiting) > 0:
        size = min(list(waiting))
        rows = waiting.pop(size)
        reached = {place: surrounding for place, surrounding in rows if place not in found}
        for place, surrounding in reached.items():
            found[place] = surrounding
            for above, row, size_of_others, others in ways.steps(*place):
                new_size = size + 1 + size_of_others
                if (above, row) not in sizes or new_size < sizes[above, row]:
                    sizes[above, row] = new_size
                    waiting.setdefault(new_size, []).append(((above, row), (above, (surrounding, *others))))
    return found


def rows_at(found, top):
    """Returns the ascending list of the rows that a dict of climbed has for a kind of the top task."""
    return sorted([row for name, row in list(found) if name == top])
