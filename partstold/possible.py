"""What is possible in the branches of a book, or of two books (points 8 to 10)."""

from partstold.checks import check_states
from partstold.leasts import counts_of_parts, least_branches, least_parts
from partstold.rules import listed, rules_in_common, rules_of


def possible(book, kind):
    """Returns the ascending tuple of the states that are possible for a kind."""
    book.kind_named(kind)
    return tuple(sorted(least_branches(rules_of(book))[kind]))


def least(book, kind, state):
    """Returns a least branch of a kind that has a state, None if there is none."""
    book.kind_named(kind)
    check_states(book.states, [state])
    found = least_branches(rules_of(book))[kind]
    return found[state][1] if state in found else None


def idle(book):
    """Returns the ascending list of the pairs of a kind and the index of a clause that counts nowhere.

    The index behind all clauses stands for the last state.
    """
    rules = rules_of(book)
    found = least_branches(rules)
    rows = []
    for name, rule in rules.items():
        if len(rule.part_kinds) > 0:
            kind = book.kind_named(name)
            indexes = counting_indexes(kind, rule, least_parts(rule, found))
            rows.extend([(name, index) for index in range(len(kind.clauses) + 1) if index not in indexes])
    return rows


def counting_indexes(kind, rule, parts):
    """Returns the list of the indexes that count for tasks with such parts."""
    rows = [listed(rule.state_row, counts) for counts in counts_of_parts(rule, parts)]
    return sorted({kind.counting(row) for row in rows})


def unlike(one, other):
    """Returns a least branch for which two books tell unlike states, None if they tell the same."""
    # Each part of a least such branch has the same state for both books, as it would be a smaller one otherwise.
    found = least_branches(rules_in_common(one, other))
    rows = [row[None] for row in found.values() if None in row]
    return min(rows, key=lambda row: row[0])[1] if len(rows) > 0 else None
