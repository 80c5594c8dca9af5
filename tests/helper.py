"""What several test files use: things of any kind that are no right arguments, and books."""

from partstold.books import Book, Kind


class Agreeing:
    """An object that says it is equal to anything."""

    def __eq__(self, other):
        return True

    def __hash__(self):
        return hash("a")


NOT_NAMES = [
    "", "abcdefghi", "A", "aB", "a b", " a", "a\n", "a1", "a_b", "a-b", "\u00e9", "\u00df", "*", ":", "/",
    0, 1, -1, True, False, None, 1.0, b"a", ("a",), ["a"], {"a": 1}, {"a"}, object(), len, str, b"",
    Agreeing(),
]

NOT_LISTS = [
    None, True, False, 0, 7, 1.5, "", "a", "abc", b"a", {}, {"a": "b"}, set(), {"a"}, frozenset(["a"]),
    object(), len, range(2), iter(["a"]), (name for name in ["a"]),
]

NOT_DIGITS = [-1, 10, 100, True, False, 1.0, 0.0, "1", "", "*", b"1", [1], (1,), {}, object(), len]


def nested(depth, inner):
    """Returns a thing inside of so many lists."""
    for step in range(depth):
        inner = [inner]
    return inner


def listed(thing):
    """Returns a branch or a surrounding with lists for tuples."""
    if not thing:
        return []
    kind, rest = thing
    return [kind, rest if isinstance(rest, str) else [listed(part) for part in rest]]


def is_of_tuples(thing):
    """Tells whether a branch or a surrounding has tuples only."""
    if not isinstance(thing, tuple):
        return False
    return not thing or isinstance(thing[1], str) or (isinstance(thing[1], tuple) and all(map(is_of_tuples, thing[1])))


def shared_size(thing):
    """Returns the size of a branch or a surrounding, and looks at equal parts that are one object only once."""
    sizes = {}

    def size_of(part):
        if not part or isinstance(part[1], str):
            return 1 if part else 0
        if id(part) not in sizes:
            sizes[id(part)] = 1 + sum(size_of(below) for below in part[1])
        return sizes[id(part)]

    return size_of(thing)


def ladder():
    """Returns a book whose least branches have billions of tasks: each state takes nine parts of the one before.

    The kinds lead on to each other, three states each; the last one is `kd` with `h`.
    """
    def rungs(hand, parts, states):
        pairs = list(zip(states, states[1:]))[::-1]
        return Kind(hand, parts, [(above, [(9, None, [below])]) for below, above in pairs], "a")

    return Book({"ka": rungs(["a"], ["ka"], "abcd"), "kb": rungs([], ["ka", "kb"], "defg"),
                 "kc": rungs([], ["kb", "kc"], "gbcd"), "kd": rungs([], ["kc", "kd"], "defh")})


def barren():
    """Returns a book with kinds of which there is no branch: `ka` and `kb` are parts of each other only.

    A `kc` has hand states and may have such parts, a `kd` has such parts only.
    """
    clauses = [("x", [(1, None, ["x"])]), ("z", [])]
    return Book({"ka": Kind([], ["kb"], clauses, "y"), "kb": Kind([], ["ka"], [], "x"),
                 "kc": Kind(["x", "y"], ["ka", "kc"], clauses, "y"), "kd": Kind([], ["ka", "kb"], clauses, "x")})


def full():
    """Returns a book with as many capped counts as there may be, and with all six clauses of four conditions."""
    clauses = []
    for index, state in enumerate("abcdef"):
        numbers = [(0, 8, "b"), (1 + index, None, "a"), (0, 9 - 1, "c" if index % 2 else "b"), (index % 2, None, "d")]
        clauses.append((state, [(least, most, list(states)) for least, most, states in numbers]))
    kind = Kind(["a", "c", "d"], ["ka", "kb"], clauses, "b")
    other = Kind(["b", "e"], ["ka", "kb"], [*clauses[::-1][:5], ("h", [(9, None, ["a"])])], "g")
    return Book({"ka": kind, "kb": other})
