"""Branches: tasks with everything below them (point 7)."""

from partstold.errors import BadBranch
from partstold.forms import is_list


def state_of(book, branch):
    """Returns the state of the top task of a branch."""
    return states_below(book, branch)[0]


def size(branch):
    """Returns the number of the tasks of a branch."""
    kind, rest = branch
    if isinstance(rest, str):
        return 1
    return 1 + sum([size(part) for part in rest])


def states_below(book, branch):
    """Returns the states of all tasks of a branch, each task ahead of its parts."""
    check_branch(book, branch)
    return told_states(book, branch)


def told_states(book, branch):
    """Returns what states_below does, for a branch that is known to belong to the book."""
    kind, rest = branch
    if isinstance(rest, str):
        return [rest]
    below = [told_states(book, part) for part in rest]
    told = book.kind_named(kind).told([states[0] for states in below])
    return [told] + [state for states in below for state in states]


def check_branch(book, branch):
    """Raises BadBranch if a thing is not a branch that belongs to the book."""
    path = wrong_path(book, book.names, branch)
    if path is not None:
        raise BadBranch(path)


def wrong_path(book, allowed, thing):
    """Returns the path to the first wrong task, None if there is none.

    The allowed kinds are those that the top task may have.
    """
    if not is_task(book, allowed, thing):
        return ()
    kind, rest = thing
    if isinstance(rest, str):
        return None
    for index, part in enumerate(rest):
        path = wrong_path(book, book.kind_named(kind).parts, part)
        if path is not None:
            return (index, *path)
    return None


def is_task(book, allowed, thing):
    """Tells whether a thing is a task of an allowed kind; its parts may be anything."""
    if not is_list(thing) or len(thing) != 2:
        return False
    kind, rest = thing
    if not isinstance(kind, str) or kind not in allowed:
        return False
    if is_list(rest):
        return len(rest) > 0
    return isinstance(rest, str) and rest in book.kind_named(kind).hand
