"""Climbs: from the states of a task to those of the tasks above it (points 11 to 18).

A row is a tuple of states that one task has, one at a time. The row of the task above is told by
the row alone, for each choice of the other parts; so the search for surroundings is one among rows.
"""

from partstold.leasts import chosen_others, counts_of_others, least_branches, least_parts
from partstold.rules import rules_of
from partstold.waiting import Waiting


class Choices:
    """The choices of what stands beside one part of a task, or beside two, and what they make of the task.

    Each is a way: a tuple of the size of the other parts, of these parts, and of a dict from keys to the states
    of the task. A key is the state of the one part, or the pair of the states of the two.
    """

    def __init__(self, ways, keys):
        self.all_ways = unlike_ways(ways, keys)
        self.ways_by_keys = {}

    def unlike(self, keys):
        """Returns least ways, one for each thing they can make of the keys of a tuple."""
        if keys not in self.ways_by_keys:
            self.ways_by_keys[keys] = unlike_ways(self.all_ways, keys)
        return self.ways_by_keys[keys]


class Ways:
    """The ways that lead from a part to the task above it, in the branches of a book."""

    def __init__(self, book):
        self.rules = rules_of(book)
        self.leasts = least_branches(self.rules)
        self.choices = {}
        for name, rule in self.rules.items():
            self.choices[name] = Choices(ways_of(rule, self.least_parts_of(name)), book.states)

    def least_parts_of(self, name):
        """Returns a dict from the states that a part of a task of a kind can have to sizes and least branches."""
        return least_parts(self.rules[name], self.leasts)

    def possible_states(self, name):
        """Returns the ascending tuple of the states that are possible for a kind."""
        return tuple(sorted(self.leasts[name]))

    def steps(self, name, row):
        """Returns all steps from a task with a row to a task above it.

        A step is a tuple of the kind and the row of the task above, and of the size and the tuple of the other parts.
        """
        states = tuple(sorted(set(row)))
        steps = []
        for above, rule in self.rules.items():
            if name in rule.part_kinds:
                for size, others, told in self.choices[above].unlike(states):
                    steps.append((above, tuple([told[state] for state in row]), size, others))
        return steps


def ways_of(rule, parts):
    """Returns the ways from a state of a part to a task of a kind, for all counts of the other parts."""
    ways = []
    for counts, size in counts_of_others(rule, parts):
        told = {state: rule.told_with(counts, state) for state in rule.state_row}
        ways.append((size, chosen_others(rule, parts, counts), told))
    return ways


def unlike_ways(ways, keys):
    """Returns, of all ways that make the same of some keys, the one with the least other parts."""
    best = {}
    for way in ways:
        row = tuple([way[2][key] for key in keys])
        if row not in best or way[0] < best[row][0]:
            best[row] = way
    return list(best.values())


def climbed(ways, starts):
    """Returns a dict from places, which are pairs of a kind and a row of a top task, to least surroundings.

    The starts are the places of the hole. The surroundings come in ascending order of their size.
    """
    found = climbed_on(ways, [(0, place, ()) for place in starts])
    return {place: thing for place, (size, thing) in found.items()}


def climbed_on(ways, starts):
    """Returns a dict from places to the sizes and the least things that lead there, in ascending order of the size.

    The starts are tuples of a size, of a place, and of a thing that leads there.
    """
    found = {}
    sizes = {}
    waiting = Waiting()
    for size, place, thing in starts:
        waiting.wait(size, (place, thing))
    while not waiting.is_empty():
        size, rows = waiting.leave()
        reached = {place: thing for place, thing in rows if place not in found}
        for place, thing in reached.items():
            found[place] = (size, thing)
            for above, row, size_of_others, others in ways.steps(*place):
                new_size = size + 1 + size_of_others
                if (above, row) not in sizes or new_size < sizes[above, row]:
                    sizes[above, row] = new_size
                    waiting.wait(new_size, ((above, row), (above, (thing, *others))))
    return found


def rows_at(found, top):
    """Returns the ascending list of the rows that a dict of climbed has for a kind of the top task."""
    return sorted([row for name, row in list(found) if name == top])
