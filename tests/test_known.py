"""The known books (point 25)."""

import itertools
import unittest

from partstold.books import Book
from partstold.known import levels, lights, ticks, votes, work


def rows(states):
    """Returns all rows of one to four states."""
    for many in range(1, 5):
        yield from itertools.product(states, repeat=many)


class Known(unittest.TestCase):
    def check_kind(self, book, name, hand, parts):
        self.assertIsInstance(book, Book)
        self.assertEqual(book.kind_named(name).hand, hand)
        self.assertEqual(book.kind_named(name).parts, parts)

    def test_ticks(self):
        book = ticks()
        self.assertEqual([book.names, book.states], [("box",), ("off", "on", "part")])
        self.check_kind(book, "box", ("off", "on"), ("box",))
        for row in rows(book.states):
            expected = row[0] if set(row) in [{"on"}, {"off"}] else "part"
            self.assertEqual(book.kind_named("box").told(row), expected)

    def test_lights(self):
        book = lights()
        self.assertEqual([book.names, book.states], [("unit",), ("amber", "green", "red")])
        self.check_kind(book, "unit", ("amber", "green", "red"), ("unit",))
        for row in rows(book.states):
            expected = "red" if "red" in row else "amber" if "amber" in row else "green"
            self.assertEqual(book.kind_named("unit").told(row), expected)

    def test_work(self):
        book = work()
        self.assertEqual(book.names, ("phase", "step", "task"))
        self.assertEqual(book.states, ("alert", "done", "dropped", "open", "stuck"))
        self.check_kind(book, "step", ("done", "dropped", "open", "stuck"), ())
        self.check_kind(book, "task", ("done", "open"), ("step", "task"))
        self.check_kind(book, "phase", (), ("task",))

    def test_tasks_of_work(self):
        for row in rows(work().states):
            if "stuck" in row:
                expected = "stuck"
            elif set(row) == {"dropped"}:
                expected = "dropped"
            elif set(row) <= {"done", "dropped"}:
                expected = "done"
            else:
                expected = "open"
            self.assertEqual(work().kind_named("task").told(row), expected)

    def test_phases_of_work(self):
        for row in rows(work().states):
            if row.count("stuck") >= 2:
                expected = "alert"
            elif "open" not in row and "stuck" not in row:
                expected = "done"
            else:
                expected = "open"
            self.assertEqual(work().kind_named("phase").told(row), expected)

    def test_votes(self):
        for number in range(1, 10):
            book = votes(number)
            self.assertEqual([book.names, book.states], [("vote",), ("no", "yes")])
            self.check_kind(book, "vote", ("no", "yes"), ("vote",))
            for yes, no in itertools.product(range(12), range(3)):
                if yes + no > 0:
                    expected = "yes" if yes >= number else "no"
                    self.assertEqual(book.kind_named("vote").told(["no"] * no + ["yes"] * yes), expected)

    def test_levels(self):
        for number in range(2, 8):
            book = levels(number)
            letters = "abcdefg"[:number]
            self.assertEqual([book.names, book.states], [("level",), tuple(letters)])
            self.check_kind(book, "level", ("a",), ("level",))
            for row in rows(letters):
                behind = letters.index(min(row)) + 1
                expected = letters[behind] if behind < number else "a"
                self.assertEqual(book.kind_named("level").told(row), expected)

    def test_arguments_by_name(self):
        self.assertTrue(votes(number=3) == votes(3))
        self.assertTrue(levels(number=3) == levels(3))

    def test_equal_arguments_give_equal_books(self):
        makers = [ticks, lights, work, lambda: votes(2), lambda: votes(3), lambda: levels(2), lambda: levels(3)]
        for one, other in itertools.product(makers, repeat=2):
            self.assertEqual(one() == other(), one is other)
            self.assertEqual(one() != other(), one is not other)


if __name__ == "__main__":
    unittest.main()
