"""Surroundings of a hole, their tables, and papers (points 11 to 13)."""

from partstold.branches import is_task
from partstold.checks import is_one_of
from partstold.climbs import Ways, climbed, rows_at
from partstold.errors import BadBranch
from partstold.forms import is_list
from partstold.possible import possible


def filled(surrounding, branch):
    """Returns the branch that comes of a surrounding if a branch is put into its hole."""
    if is_hole(surrounding):
        return copied(branch)
    kind, rest = surrounding
    if isinstance(rest, str):
        return kind, rest
    return kind, tuple([filled(part, branch) for part in rest])


def copied(branch):
    """Returns a branch of tuples."""
    kind, rest = branch
    if isinstance(rest, str):
        return kind, rest
    return kind, tuple([copied(part) for part in rest])


def table_of(book, hole, surrounding):
    """Returns the table of a surrounding."""
    check_surrounding(book, hole, surrounding)
    return row_above(book, surrounding, possible(book, hole))


def tables(book, hole, top):
    """Returns the ascending list of all tables, in pairs with least surroundings."""
    book.kind_named(hole)
    book.kind_named(top)
    found = all_tables(Ways(book), hole)
    return [(row, found[top, row]) for row in rows_at(found, top)]


def paper(book, hole):
    """Returns the least paper for a kind of the hole."""
    book.kind_named(hole)
    found = all_tables(Ways(book), hole)
    return {name: rows_at(found, name) for name in book.names}


def is_paper(book, hole, paper):
    """Tells whether a dict from the kinds of a book to lists of tuples of states is a paper."""
    book.kind_named(hole)
    ways = Ways(book)
    first = ways.possible_states(hole)
    if not all([name in paper and are_rows(book, paper[name], len(first)) for name in book.names]):
        return False
    rows = {name: {tuple(row): True for row in paper[name]} for name in book.names}
    return first in rows[hole] and leads_to_itself(ways, rows)


def all_tables(ways, hole):
    """Returns a dict from all pairs of a kind of the top task and a table to least surroundings."""
    return climbed(ways, [(hole, ways.possible_states(hole))])


def are_rows(book, rows, width):
    """Tells whether all tuples of a list are of so many states of a book."""
    if not all([len(row) == width for row in rows]):
        return False
    return all([is_one_of(state, book.states) for row in rows for state in row])


def leads_to_itself(ways, rows):
    """Tells whether each step from a row leads to a row that is there, too."""
    for name, known in rows.items():
        for row in known:
            for above, row_told, size, others in ways.steps(name, row):
                if row_told not in rows[above]:
                    return False
    return True


def check_surrounding(book, hole, thing):
    """Raises UnknownKind, or BadBranch if a thing is not a surrounding for this kind of the hole."""
    book.kind_named(hole)
    path, has_hole = wrong_place(book, hole, book.names, thing, False)
    if path is not None:
        raise BadBranch(path)
    if not has_hole:
        raise BadBranch(())


def wrong_place(book, hole, allowed, thing, has_hole):
    """Returns the path to the first wrong task or hole, None if there is none, and whether there is a hole.

    The allowed kinds are those that the top task, or what is put into the hole in its place, may have.
    What is passed last tells whether there is a hole ahead.
    """
    if is_hole(thing):
        can_stand = hole in allowed and not has_hole
        return (None if can_stand else ()), True
    if not is_task(book, allowed, thing):
        return (), has_hole
    kind, rest = thing
    if isinstance(rest, str):
        return None, has_hole
    for index, part in enumerate(rest):
        path, has_hole = wrong_place(book, hole, book.kind_named(kind).parts, part, has_hole)
        if path is not None:
            return (index, *path), has_hole
    return None, has_hole


def is_hole(thing):
    """Tells whether a thing is a hole."""
    return is_list(thing) and len(thing) == 0


def row_above(book, thing, row):
    """Returns the states of the top task if the task in the hole has the states of a row."""
    if is_hole(thing):
        return row
    kind, rest = thing
    if isinstance(rest, str):
        return (rest,) * len(row)
    below = [row_above(book, part, row) for part in rest]
    return tuple([book.kind_named(kind).told(states) for states in zip(*below)])
