"""Rules: what is told of the capped counts of the states of parts (points 3, 4 and 10).

A condition cannot tell apart numbers of parts that are both as great as each number it asks for.
So a state is counted up to the greatest such number only, its cap, and the finitely many counts
that are left stand for all parts.
"""


class Rule:
    """What is told of a task of one kind, or of the kinds that several books have under one name.

    Of several kinds, the rule has what they have in common; where they tell unlike states, it tells None.
    """

    def __init__(self, states, kinds):
        self.state_row = states
        self.hand_states = in_common([kind.hand for kind in kinds])
        self.part_kinds = in_common([kind.parts for kind in kinds])
        self.caps = [max([cap_of(kind, state) for kind in kinds]) for state in states]
        self.places = {state: place for place, state in enumerate(states)}
        self.telling = {}
        for counts in all_counts(self.caps):
            row = listed(states, counts)
            self.telling[counts] = agreed([kind.told(row) for kind in kinds])

    def with_one_more(self, counts, state):
        """Returns the counts if there is one more part with a state."""
        place = self.places[state]
        if counts[place] == self.caps[place]:
            return counts
        return counts[:place] + (counts[place] + 1,) + counts[place + 1:]

    def told_with(self, counts, state):
        """Returns what is told if there is one more part with a state."""
        return self.telling[self.with_one_more(counts, state)]


def rules_of(book):
    """Returns a dict from the names of the kinds of a book to their rules."""
    return {name: Rule(book.states, [book.kind_named(name)]) for name in book.names}


def rules_in_common(one, other):
    """Returns a dict from the names that two books have in common to rules for both."""
    states = sorted(set(one.states + other.states))
    names = in_common([one.names, other.names])
    return {name: Rule(states, [one.kind_named(name), other.kind_named(name)]) for name in names}


def in_common(rows):
    """Returns what all rows have, in the order of the first one."""
    return [name for name in rows[0] if all([name in row for row in rows])]


def agreed(states):
    """Returns the state that all of some states are, None if they are not one and the same."""
    return states[0] if len(set(states)) == 1 else None


def cap_of(kind, state):
    """Returns the greatest number of parts with a state that a condition tells from all smaller ones."""
    numbers = [0]
    for told, conditions in kind.clauses:
        for least, most, names in conditions:
            if state in names:
                numbers.extend([least, 0 if most is None else most + 1])
    return max(numbers)


def all_counts(caps):
    """Returns all tuples of counts that are nowhere greater than the caps."""
    rows = [()]
    for cap in caps:
        rows = [(*counts, many) for counts in rows for many in range(cap + 1)]
    return rows


def listed(states, counts):
    """Returns the list that has each state as often as its count tells."""
    return [state for state, many in zip(states, counts) for step in range(many)]
