"""The books that are part of the package (point 25)."""

from partstold.books import Book, Kind

LETTERS = "abcdefghijklmnopqrstuvwxyz"


def ticks():
    """Returns the book of ticks: on or off if all parts are."""
    clauses = [("on", [(0, 0, ["off", "part"])]), ("off", [(0, 0, ["on", "part"])])]
    return Book({"box": Kind(["off", "on"], ["box"], clauses, "part")})


def lights():
    """Returns the book of lights: as bad as the worst part."""
    clauses = [("red", [(1, None, ["red"])]), ("amber", [(1, None, ["amber"])])]
    return Book({"unit": Kind(["green", "amber", "red"], ["unit"], clauses, "green")})


def work():
    """Returns the book of work: steps, tasks of steps and tasks, and phases of tasks."""
    # A step has no parts, so that its last state never counts; this one adds no state to the book.
    step = Kind(["open", "done", "stuck", "dropped"], [], [], "open")
    return Book({"step": step, "task": work_task(), "phase": work_phase()})


def work_task():
    """Returns the kind of the tasks of the book of work."""
    clauses = [
        ("stuck", [(1, None, ["stuck"])]),
        # All parts are dropped if none has another state of the book.
        ("dropped", [(0, 0, ["alert", "done", "open", "stuck"])]),
        ("done", [(0, 0, ["alert", "open", "stuck"])]),
    ]
    return Kind(["open", "done"], ["step", "task"], clauses, "open")


def work_phase():
    """Returns the kind of the phases of the book of work."""
    clauses = [("alert", [(2, None, ["stuck"])]), ("done", [(0, 0, ["open", "stuck"])])]
    return Kind([], ["task"], clauses, "open")


def votes(number):
    """Returns the book of votes: yes if at least so many parts are."""
    clauses = [("yes", [(number, None, ["yes"])])]
    return Book({"vote": Kind(["no", "yes"], ["vote"], clauses, "no")})


def levels(number):
    """Returns the book of levels: the letter behind the first one of the parts."""
    letters = LETTERS[:number]
    clauses = [(behind, [(1, None, [letter])]) for letter, behind in zip(letters, letters[1:])]
    return Book({"level": Kind(["a"], ["level"], clauses, "a")})
