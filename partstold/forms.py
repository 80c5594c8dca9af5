"""The forms of names, conditions and clauses (points 2 to 5), asked of any objects."""

MOST_LETTERS = 8
MOST_DIGIT = 9
MOST_CLAUSES = 6
MOST_CONDITIONS = 4


def is_list(thing):
    """Tells whether a thing is a list or a tuple."""
    return isinstance(thing, (list, tuple))


def is_name(thing):
    """Tells whether a thing is a name."""
    if not isinstance(thing, str) or not 1 <= len(thing) <= MOST_LETTERS:
        return False
    return all(["a" <= letter <= "z" for letter in thing])


def are_names(thing):
    """Tells whether a thing is a list of different names, perhaps of none."""
    if not is_list(thing) or not all([is_name(name) for name in thing]):
        return False
    return len(set(thing)) == len(thing)


def are_ascending(names):
    """Tells whether the strings of a list are names, each behind the one ahead of it."""
    if not all([is_name(name) for name in names]):
        return False
    return all([name < behind for name, behind in zip(names, names[1:])])


def is_digit(thing):
    """Tells whether a thing is an integer that a condition may have."""
    # Python counts True and False among the integers, the document does not.
    return isinstance(thing, int) and not isinstance(thing, bool) and 0 <= thing <= MOST_DIGIT


def is_condition(thing):
    """Tells whether a thing is a condition (point 3)."""
    if not is_list(thing) or len(thing) != 3:
        return False
    least, most, states = thing
    if not is_digit(least) or not (most is None or is_digit(most)):
        return False
    return are_names(states) and len(states) > 0


def is_clause(thing):
    """Tells whether a thing is a clause with no more conditions than it may have."""
    if not is_list(thing) or len(thing) != 2:
        return False
    state, conditions = thing
    if not is_name(state) or not is_list(conditions) or len(conditions) > MOST_CONDITIONS:
        return False
    return all([is_condition(condition) for condition in conditions])


def are_clauses(thing):
    """Tells whether a thing is a list of clauses, no more than a kind may have."""
    if not is_list(thing) or len(thing) > MOST_CLAUSES:
        return False
    return all([is_clause(clause) for clause in thing])
