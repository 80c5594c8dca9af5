"""The fewest settings of tasks without parts with which a branch has a state (point 20)."""

from partstold.branches import check_branch
from partstold.checks import check_states
from partstold.leasts import unchained
from partstold.rules import rules_of


def fewest(book, branch, state):
    """Returns the least number of settings with which a branch has a state, None if it cannot have it."""
    row = least_settings(book, branch, state)
    return None if row is None else row[0]


def settings(book, branch, state):
    """Returns the branch set anew with the fewest settings so that it has a state, None if it cannot have it."""
    row = least_settings(book, branch, state)
    return None if row is None else row[1]


def least_settings(book, branch, state):
    """Returns the least number of settings and the branch set anew, None if there are no such settings."""
    check_branch(book, branch)
    check_states(book.states, [state])
    return set_anew(book, rules_of(book), branch).get(state)


def set_anew(book, rules, branch):
    """Returns a dict from all states that a branch can have to least numbers of settings and the branch set anew."""
    kind, rest = branch
    if isinstance(rest, str):
        return {state: (0 if state == rest else 1, (kind, state)) for state in book.kind_named(kind).hand}
    rule = rules[kind]
    found = {}
    for counts, (many, chain) in sums_of(rule, [set_anew(book, rules, part) for part in rest]).items():
        state = rule.telling[counts]
        if state not in found or many < found[state][0]:
            found[state] = (many, chain)
    # The last part is the first one of a chain.
    return {state: (many, (kind, unchained(chain)[::-1])) for state, (many, chain) in found.items()}


def sums_of(rule, parts):
    """Returns a dict from the capped counts of some parts to least numbers of settings and chains of the parts.

    Each part is what set_anew returns for it.
    """
    sums = {(0,) * len(rule.state_row): (0, None)}
    for part in parts:
        sums = with_one_more(rule, sums, part)
    return sums


def with_one_more(rule, sums, part):
    """Returns what sums_of does, for parts with such sums and one more part."""
    found = {}
    for state, (many, thing) in part.items():
        for counts, (many_ahead, chain) in sums.items():
            place = rule.with_one_more(counts, state)
            if place not in found or many_ahead + many < found[place][0]:
                found[place] = (many_ahead + many, (thing, chain))
    return found
