"""What a deed at one task makes at the top (points 14 and 15)."""

from partstold.checks import check_states, is_one_of
from partstold.climbs import Ways, climbed, rows_at
from partstold.leasts import counts_of_parts, least_parts


def carried(book, hole, top, old, new):
    """Returns the ascending list of all pairs of states to which a pair is carried."""
    return rows_at(carriers(book, hole, top, old, new), top)


def carrier(book, hole, top, old, new, before, behind):
    """Returns a least surrounding that carries the pair of old and new to before and behind, or None."""
    found = carriers(book, hole, top, old, new)
    if not is_one_of(before, book.states) or not is_one_of(behind, book.states):
        return None
    return found.get((top, (before, behind)))


def carriers(book, hole, top, old, new):
    """Returns a dict from all pairs of a kind and a pair of states to least surroundings that carry to it."""
    book.kind_named(hole)
    book.kind_named(top)
    ways = Ways(book)
    check_states(ways.possible_states(hole), [old, new])
    return climbed(ways, [(hole, (old, new))])


def added(book, kind, top):
    """Returns the ascending list of the pairs of a top task if a task is added to one of a kind."""
    book.kind_named(kind)
    book.kind_named(top)
    ways = Ways(book)
    return rows_at(climbed(ways, starts_of(kind, added_pairs(ways, kind))), top)


def struck(book, kind, top):
    """Returns the ascending list of the pairs of a top task if a part of a task of a kind is struck."""
    book.kind_named(kind)
    book.kind_named(top)
    ways = Ways(book)
    return rows_at(climbed(ways, starts_of(kind, struck_pairs(ways, kind))), top)


def starts_of(kind, pairs):
    """Returns the starts of a climb from tasks of a kind, each once."""
    return sorted({(kind, pair) for pair in pairs})


def added_pairs(ways, kind):
    """Returns all pairs of states, before and behind, of a task to which a part without parts is added."""
    rule = ways.rules[kind]
    states = sorted({state for name in rule.part_kinds for state in ways.rules[name].hand_states})
    no_parts = (0,) * len(rule.state_row)
    # A first part takes the place of the hand state, whichever it was.
    pairs = [(old, rule.told_with(no_parts, state)) for old in rule.hand_states for state in states]
    for counts in counts_of_parts(rule, least_parts(rule, ways.leasts)):
        pairs.extend([(rule.telling[counts], rule.told_with(counts, state)) for state in states])
    return pairs


def struck_pairs(ways, kind):
    """Returns all pairs of states, before and behind, of a task of which a part is struck."""
    rule = ways.rules[kind]
    parts = least_parts(rule, ways.leasts)
    pairs = []
    # The counts are those of the parts that are left; as there are some, the struck one is not the last.
    for counts in counts_of_parts(rule, parts):
        pairs.extend([(rule.told_with(counts, state), rule.telling[counts]) for state in parts])
    return pairs
