"""Two deeds at once, and what they make at the top (points 17 and 18)."""

from partstold.checks import check_states, is_one_of
from partstold.climbs import Choices, Ways, climbed_on, rows_at
from partstold.forms import is_list
from partstold.leasts import chosen_others, counts_of_others
from partstold.surroundings import filled, is_hole


def rows(book, one, two, top):
    """Returns the ascending list of all rows of four that double surroundings have for two changes."""
    ways = checked_ways(book, one, two, top)
    return rows_at(forks_of(ways, one, two), top)


def fork(book, one, two, top, row):
    """Returns a least double surrounding with a row, None if there is none."""
    ways = checked_ways(book, one, two, top)
    if not is_list(row) or not all([is_one_of(state, book.states) for state in row]):
        return None
    found = forks_of(ways, one, two)
    place = (top, tuple(row))
    return found[place][1] if place in found else None


def flickers(book, one, two, top):
    """Returns the ascending list of the rows that are flickers."""
    return [row for row in rows(book, one, two, top) if is_flicker(row)]


def filled_twice(double, first, second):
    """Returns the branch that comes of a double surrounding if two branches are put into its holes."""
    return filled(first_filled(double, first), second)


def checked_ways(book, one, two, top):
    """Returns the ways of a book; raises an error if a change or the kind of the top task is none of the book's."""
    ways = Ways(book)
    for kind, *states in [one, two]:
        book.kind_named(kind)
        check_states(ways.possible_states(kind), states)
    book.kind_named(top)
    return ways


def is_flicker(row):
    """Tells whether a row has a state in its middle that is neither its first nor its last one."""
    before, *middle, behind = row
    return not all([state in (before, behind) for state in middle])


def forks_of(ways, one, two):
    """Returns a dict from places of the top task to sizes and least double surroundings."""
    firsts, seconds = [climbed_on(ways, [(0, (kind, (old, new)), ())]) for kind, old, new in [one, two]]
    joins = []
    for name in ways.rules:
        joins.extend(joins_at(ways, name, firsts, seconds))
    return climbed_on(ways, joins)


def joins_at(ways, name, firsts, seconds):
    """Returns the least double surroundings of a kind whose holes are in two of the parts.

    They are tuples of a size, of a place, and of the double surrounding. In the parts are surroundings of the
    first and the second hole, as the two dicts have them.
    """
    kinds = ways.rules[name].part_kinds
    first_pairs, second_pairs = least_pairs(firsts, kinds), least_pairs(seconds, kinds)
    choices = choices_of_two(ways, name, states_of(first_pairs), states_of(second_pairs))
    best = {}
    for one, (size_one, first) in first_pairs.items():
        for two, (size_two, second) in second_pairs.items():
            keys = tuple([(state, other) for other in two for state in one])
            for size_of_others, others, told in choices.unlike(tuple(sorted(set(keys)))):
                row = tuple([told[key] for key in keys])
                size = 1 + size_one + size_two + size_of_others
                if row not in best or size < best[row][0]:
                    best[row] = (size, (name, (first, second, *others)))
    return [(size, (name, row), double) for row, (size, double) in best.items()]


def least_pairs(found, kinds):
    """Returns a dict from the pairs of states that parts of some kinds have to sizes and least surroundings."""
    best = {}
    # What is climbed to comes in ascending order of the size.
    for (kind, pair), row in found.items():
        if kind in kinds and pair not in best:
            best[pair] = row
    return best


def states_of(pairs):
    """Returns the ascending list of all states in the pairs of a dict."""
    return sorted({state for pair in pairs for state in pair})


def choices_of_two(ways, name, first_states, second_states):
    """Returns the choices of what stands beside two parts of a task of a kind, which have some states each.

    Their keys are pairs of a state of the first part and one of the second part.
    """
    rule = ways.rules[name]
    parts = ways.least_parts_of(name)
    ways_of_two = []
    for counts, size in counts_of_others(rule, parts):
        told = {}
        for first in first_states:
            counts_with_first = rule.with_one_more(counts, first)
            for second in second_states:
                told[first, second] = rule.told_with(counts_with_first, second)
        ways_of_two.append((size, chosen_others(rule, parts, counts), told))
    return Choices(ways_of_two, [(first, second) for first in first_states for second in second_states])


def first_filled(thing, branch):
    """Returns what comes of a branch with holes if a branch is put into the first of them."""
    if is_hole(thing):
        return branch
    kind, parts = thing
    place = [has_hole(part) for part in parts].index(True)
    return kind, (*parts[:place], first_filled(parts[place], branch), *parts[place + 1:])


def has_hole(thing):
    """Tells whether a thing is a hole, or a task with one below it."""
    if is_hole(thing):
        return True
    kind, rest = thing
    return not isinstance(rest, str) and any([has_hole(part) for part in rest])
