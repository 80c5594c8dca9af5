"""The errors of the package.

What an error is made with is kept by Python as its message, too.
"""


class PartsError(ValueError):
    """Something that was passed is not right."""


class BadKind(PartsError):
    """An argument of a kind is not right; the place is its name."""

    def __init__(self, place):
        self.place = place


class BadBook(PartsError):
    """The kinds make no book; the place tells what is wrong with them."""

    def __init__(self, place):
        self.place = place


class BadText(PartsError):
    """A text is not that of a book; the line is counted from 1."""

    def __init__(self, line):
        self.line = line


class UnknownKind(PartsError):
    """A thing is not a kind of the book."""

    def __init__(self, kind):
        self.kind = kind


class BadBranch(PartsError):
    """A thing is not a branch of the book; the path leads to the first wrong task."""

    def __init__(self, path):
        self.path = path


class BadState(PartsError):
    """A thing is not a state that can stand there."""

    def __init__(self, state):
        self.state = state


class BadName(PartsError):
    """A thing is not a name."""

    def __init__(self, name):
        self.name = name


class Taken(PartsError):
    """Another task has this name."""

    def __init__(self, name):
        self.name = name


class NoTask(PartsError):
    """No task has this name."""

    def __init__(self, name):
        self.name = name


class BadPart(PartsError):
    """The parts of a task may not be of this kind."""

    def __init__(self, kind):
        self.kind = kind


class HasParts(PartsError):
    """A task has parts, and so no hand state."""

    def __init__(self, name):
        self.name = name


class NoParts(PartsError):
    """A task has no parts, and so no mark."""

    def __init__(self, name):
        self.name = name


class NoMark(PartsError):
    """A task has no mark."""

    def __init__(self, name):
        self.name = name


class TopTask(PartsError):
    """A task is the top task, which is neither struck nor moved."""

    def __init__(self, name):
        self.name = name


class LastPart(PartsError):
    """A task is the only part of the task above it."""

    def __init__(self, name):
        self.name = name


class Below(PartsError):
    """A task is the one that is moved, or below it."""

    def __init__(self, name):
        self.name = name


class NoDeed(PartsError):
    """There is no deed to undo, or none to do again."""
