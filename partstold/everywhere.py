"""Which states make no difference to wanted states above them (point 16)."""

from partstold.checks import check_states
from partstold.climbs import Ways, climbed


def alike(book, hole, top, wanted):
    """Returns the ascending list of the ascending tuples of states that are alike."""
    book.kind_named(hole)
    book.kind_named(top)
    check_states(book.states, wanted)
    ways = Ways(book)
    groups = []
    for state in ways.possible_states(hole):
        near = [group for group in groups if least_parting(ways, hole, top, group[0], state, wanted) is None]
        if len(near) > 0:
            near[0].append(state)
        else:
            groups.append([state])
    return [tuple(group) for group in groups]


def parting(book, hole, top, one, other, wanted):
    """Returns a least surrounding that parts two states, None if they are alike."""
    book.kind_named(hole)
    book.kind_named(top)
    ways = Ways(book)
    check_states(ways.possible_states(hole), [one, other])
    check_states(book.states, wanted)
    return least_parting(ways, hole, top, one, other, wanted)


def least_parting(ways, hole, top, one, other, wanted):
    """Returns what parting does, for arguments that are known to be right."""
    # What is climbed to comes in ascending order of the size.
    for (name, row), surrounding in climbed(ways, [(hole, (one, other))]).items():
        if name == top and (row[0] in wanted) != (row[1] in wanted):
            return surrounding
    return None
