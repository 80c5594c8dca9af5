"""What the state of the top task tells for sure of the tasks without parts (point 19)."""

from partstold.checks import check_states
from partstold.leasts import least_counted
from partstold.rules import rules_of


def least_with(book, kind, state, among, low, high=None):
    """Returns a least branch of a kind with a state and a number of tasks from low to high, None if there is none.

    The number is that of the tasks without parts whose state is among those of a list.
    """
    found = least_by_number(book, kind, state, among, low, high)
    rows = [row for many, row in found.items() if is_within(many, low, high)]
    return min(rows, key=lambda row: row[0])[1] if len(rows) > 0 else None


def is_sure(book, kind, state, among, low, high=None):
    """Tells whether each branch of a kind with a state has such a number of such tasks."""
    found = least_by_number(book, kind, state, among, low, high)
    return all([is_within(many, low, high) for many in list(found)])


def least_by_number(book, kind, state, among, low, high):
    """Returns a dict from numbers of tasks to sizes and least branches of a kind with a state.

    The greatest number stands for all greater ones, too, as these are told alike.
    """
    book.kind_named(kind)
    check_states(book.states, [state, *among])
    greatest = max(0, low, 0 if high is None else high + 1)
    found = least_counted(rules_of(book), among, greatest)[kind]
    return {many: row for (told, many), row in found.items() if told == state}


def is_within(many, low, high):
    """Tells whether a number is at least low, and at most high if this is not None."""
    return low <= many and (high is None or many <= high)
