"""What several test files use: things of any kind that are no right arguments."""


class Agreeing:
    """An object that says it is equal to anything."""

    def __eq__(self, other):
        return True

    def __hash__(self):
        return hash("a")


NOT_NAMES = [
    "", "abcdefghi", "A", "aB", "a b", " a", "a\n", "a1", "a_b", "a-b", "\u00e9", "\u00df", "*", ":", "/",
    0, 1, -1, True, False, None, 1.0, b"a", ("a",), ["a"], {"a": 1}, {"a"}, object(), len, str, b"",
    Agreeing(),
]

NOT_LISTS = [
    None, True, False, 0, 7, 1.5, "", "a", "abc", b"a", {}, {"a": "b"}, set(), {"a"}, frozenset(["a"]),
    object(), len, range(2), iter(["a"]), (name for name in ["a"]),
]

NOT_DIGITS = [-1, 10, 100, True, False, 1.0, 0.0, "1", "", "*", b"1", [1], (1,), {}, object(), len]


def nested(depth, inner):
    """Returns a thing inside of so many lists."""
    for step in range(depth):
        inner = [inner]
    return inner
