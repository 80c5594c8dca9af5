"""Texts of books: written, read, and the first wrong line (point 6)."""

import itertools
import unittest

from partstold.books import Book, Kind
from partstold.errors import BadBook, BadText, PartsError
from partstold.known import levels, lights, ticks, votes, work

TASK = "kind task\nhand done open\nparts task\ndone: 0 0 open\nelse open"
FULL = "\n".join([
    "kind a", "hand x y", "parts a b", "late:", "done: 0 0 x y / 1 * z / 2 3 x / 9 9 y", "else x",
    "kind b", "hand", "parts a", "else y",
    "kind c", "hand z", "parts", "else z",
    "kind zzzzzzzz", "hand x", "parts zzzzzzzz", "x:", "x:", "x:", "x:", "x:", "x: 9 0 x", "else zzzzzzzz",
])
WORDS = ["kind a", "kind b", "hand", "hand x", "parts", "parts a", "x:", "x: 0 * x", "else x", ""]


def line_of(text):
    """Returns the number of the wrong line of a text, the wrong place of a book, or None."""
    try:
        Book.parse(text)
    except BadText as error:
        return error.line
    except BadBook as error:
        return error.place
    return None


class Written(unittest.TestCase):
    def test_example(self):
        kind = Kind(["open", "done"], ["task"], [("done", [(0, 0, ["open"])])], "open")
        text = Book({"task": kind}).text()
        self.assertEqual(text, "kind task\nhand done open\nparts task\ndone: 0 0 open\nelse open")

    def test_clauses(self):
        clauses = [("done", ((0, 0, ("stuck", "open")), (1, None, ("done",)))), ("late", ())]
        text = Book({"task": Kind(["open"], ["task"], clauses, "stuck")}).text()
        lines = ["kind task", "hand open", "parts task", "done: 0 0 open stuck / 1 * done", "late:", "else stuck"]
        self.assertEqual(text, "\n".join(lines))

    def test_without_hand_states_or_parts_or_clauses(self):
        book = Book({"up": Kind([], ["up", "down"], [], "z"), "down": Kind(["b", "a"], [], [], "a")})
        lines = ["kind down", "hand a b", "parts", "else a", "kind up", "hand", "parts down up", "else z"]
        self.assertEqual(book.text(), "\n".join(lines))

    def test_equal_books_have_equal_texts(self):
        kinds = {name: Kind(["x"], [], [], name) for name in "dbca"}
        other = {name: kinds[name] for name in "abcd"}
        self.assertEqual(Book(kinds).text(), Book(other).text())


class Read(unittest.TestCase):
    def test_example(self):
        kind = Kind(["open", "done"], ["task"], [("done", [(0, 0, ["open"])])], "open")
        self.assertTrue(Book.parse(TASK) == Book({"task": kind}))
        self.assertIsInstance(Book.parse(text=TASK), Book)

    def test_greatest_text(self):
        book = Book.parse(FULL)
        self.assertEqual(book.names, ("a", "b", "c", "zzzzzzzz"))
        self.assertEqual(book.states, ("done", "late", "x", "y", "z", "zzzzzzzz"))
        conditions = ((0, 0, ("x", "y")), (1, None, ("z",)), (2, 3, ("x",)), (9, 9, ("y",)))
        expected = Kind(("x", "y"), ("a", "b"), (("late", ()), ("done", conditions)), "x")
        self.assertTrue(book.kind_named("a") == expected)
        self.assertTrue(book.kind_named("b") == Kind([], ["a"], [], "y"))
        self.assertTrue(book.kind_named("c") == Kind(["z"], [], [], "z"))
        self.assertEqual(len(book.kind_named("zzzzzzzz").clauses), 6)
        self.assertEqual(book.text(), FULL)

    def test_there_and_back(self):
        for book in [ticks(), lights(), work(), votes(1), votes(9), levels(2), levels(7)]:
            self.assertTrue(Book.parse(book.text()) == book)
            self.assertEqual(Book.parse(book.text()).text(), book.text())

    def test_words_of_the_text_may_be_names(self):
        text = "kind else\nhand hand kind parts\nparts else\nelse:\nkind: 0 * else kind\nelse hand"
        book = Book.parse(text)
        self.assertEqual(book.text(), text)
        self.assertEqual(book.kind_named("else").counting(["kind"]), 0)

    def test_each_digit(self):
        for least, most in itertools.product("0123456789", "*0123456789"):
            text = TASK.replace("0 0", least + " " + most)
            expected = (int(least), None if most == "*" else int(most), ("open",))
            self.assertEqual(Book.parse(text).kind_named("task").clauses[0][1], (expected,))


class Wrong(unittest.TestCase):
    def test_empty_text(self):
        self.assertEqual(line_of(""), 1)
        self.assertEqual(line_of("\n"), 1)

    def test_a_line_lacking_behind_the_last_one(self):
        lines = FULL.split("\n")
        ends = [6, 10, 14, 24]
        for many in range(1, len(lines) + 1):
            text = "\n".join(lines[:many])
            expected = "parts" if many == 6 else None
            self.assertEqual(line_of(text), expected if many in ends else many + 1)

    def test_a_line_too_many(self):
        self.assertEqual(line_of(TASK + "\n"), 6)
        self.assertEqual(line_of(TASK + "\n\n"), 6)
        self.assertEqual(line_of("\n" + TASK), 1)
        self.assertEqual(line_of(TASK + "\nelse open"), 6)
        self.assertEqual(line_of(FULL + "\n"), 25)

    def test_each_line_left_out(self):
        lines = TASK.split("\n")
        for index, expected in enumerate([1, 2, 3, None, 5]):
            text = "\n".join(lines[:index] + lines[index + 1:])
            self.assertEqual(line_of(text), expected)

    def test_each_line_twice(self):
        lines = TASK.split("\n")
        for index, expected in enumerate([2, 3, 4, None, 6]):
            text = "\n".join(lines[:index + 1] + lines[index:])
            self.assertEqual(line_of(text), expected)

    def wrong_lines(self, index, lines):
        rows = TASK.split("\n")
        for line in lines:
            with self.subTest(line):
                changed = rows[:index] + [line] + rows[index + 1:]
                self.assertEqual(line_of("\n".join(changed)), index + 1)

    def test_wrong_first_lines(self):
        self.wrong_lines(0, [
            "kind", "kind ", "kind  task", "kind task ", " kind task", "kind a b", "Kind task", "kind Task", "kinds task",
            "kind: task", "kind abcdefghi", "kind t1", "kind\ttask", "task", "hand task", "kind task\r", "kind \u00e9",
        ])

    def test_wrong_lines_of_hand_states(self):
        self.wrong_lines(1, [
            "hand open done", "hand done done open", "hand done  open", "hand ", " hand done", "hand done open ", "Hand",
            "hands done", "hand: done", "done open", "", "parts task", "hand done 1", "hand done/open", "hand abcdefghi",
            "hand done, open", "hand done\topen", "kind tasks", "else open", "hand done\u00a0open",
        ])

    def test_wrong_lines_of_parts(self):
        self.wrong_lines(2, [
            "parts b a", "parts task task", "parts ", "parts  task", " parts task", "part task", "parts task ", "",
            "hand task", "parts Task", "parts *", "done: 0 0 open", "else open", "kind z", "parts: task",
        ])
        self.assertEqual(line_of("kind a\nhand\nparts\nelse x"), 3)
        self.assertEqual(line_of("kind a\nhand\nparts"), 3)

    def test_wrong_clauses(self):
        self.wrong_lines(3, [
            "done", "done :", "done: ", ":", ": 0 0 open", "done:0 0 open", "done : 0 0 open", " done: 0 0 open", "",
            "done:: 0 0 open", "Done: 0 0 open", "done: 0 0", "done: 0 0 ", "done: 0", "done: 0 open", "done: open",
            "done: 0 0 open ", "done: 0  0 open", "done:  0 0 open", "done: 0 0  open", "done: 0 0 open open",
            "done: 0 0 open done", "done: 10 0 open", "done: 0 10 open", "done: -1 0 open", "done: +1 0 open",
            "done: 00 0 open", "done: * 0 open", "done: * * open", "done: 0 ** open", "done: 0 None open", "done: a 0 open",
            "done: \u00b2 0 open", "done: 0 \u0661 open", "done: 0 0 Open", "done: 0 0 abcdefghi", "done: 0 0 open/",
            "done: / 0 0 open", "done: 0 0 open /", "done: 0 0 open / ", "done: 0 0 open / / 1 * done", "done: /",
            "done: 0 0 open /1 * done", "done: 0 0 open 1 * done", "done: 0 0 open / 1 *", "done: 0 0 open / 1 * done /",
            "done: 0 0 open  / 1 * done", "done: 0 0 open, done", "done 0 0 open", "kind z", "hand x", "parts z", "abcdefghi:",
            "done: 0 0 / open", "done: 0 0 a / 0 0 a / 0 0 a / 0 0 a / 0 0 a", "else: 0", "elses open", "done: 0 0 open\r",
        ])

    def test_numbers_are_single_digits(self):
        words = ["", "01", "12", "123", "0123456789", "0.", "-0", "**", "*0"]
        words += [chr(code) for code in range(32, 127) if chr(code) not in "0123456789*"]
        for word in words:
            self.wrong_lines(3, [f"done: {word} 0 open", f"done: 0 {word} open", f"done: 1 * a / {word} 9 open"])
        self.wrong_lines(3, ["done: * 0 open", "done: 0 0 open / * * open"])

    def test_wrong_last_lines(self):
        self.wrong_lines(4, [
            "else", "else ", "else  open", "else open ", "else open done", " else open", "else Open", "else 1",
            "Else open", "open", "", "kind z", "else abcdefghi", "else open\r", "hand open",
        ])

    def test_five_conditions(self):
        four = " / ".join(["0 0 open"] * 4)
        self.assertEqual(line_of(TASK.replace("0 0 open", four)), None)
        self.assertEqual(line_of(TASK.replace("0 0 open", four + " / 0 0 open")), 4)

    def test_seven_clauses(self):
        start = "kind a\nhand x\nparts a\n"
        self.assertEqual(line_of(start + "x:\n" * 6 + "else x"), None)
        self.assertEqual(line_of(start + "x:\n" * 7 + "else x"), 10)
        self.assertEqual(line_of(start + "\n".join(["x:"] * 6)), 10)
        self.assertEqual(line_of(start + "\n".join(["x:"] * 7)), 10)

    def test_five_kinds(self):
        rows = [f"kind {name}\nhand x\nparts\nelse x" for name in "abcde"]
        self.assertEqual(line_of("\n".join(rows[:4])), None)
        self.assertEqual(line_of("\n".join(rows)), 17)

    def test_names_of_kinds_ascend(self):
        def two(one, other):
            return line_of(f"kind {one}\nhand x\nparts\nelse x\nkind {other}\nhand x\nparts\nelse x")
        self.assertEqual([two("a", "b"), two("a", "aa"), two("b", "a"), two("a", "a"), two("aa", "a")],
                         [None, None, 5, 5, 5])

    def test_the_first_wrong_line_counts(self):
        lines = FULL.split("\n")
        for one, other in itertools.combinations(range(len(lines)), 2):
            changed = list(lines)
            changed[one] = changed[other] = "?"
            self.assertEqual(line_of("\n".join(changed)), one + 1)

    def test_no_line_is_wrong_for_a_bad_book(self):
        self.assertEqual(line_of("kind a\nhand a b c d e f g h i\nparts\nelse a"), "states")
        self.assertEqual(line_of("kind a\nhand a b c d e f g h\nparts\nelse i"), "states")
        self.assertEqual(line_of("kind a\nhand a b c d e f g h\nparts\nelse h"), None)
        self.assertEqual(line_of("kind a\nhand a\nparts b\nelse a"), "parts")
        self.assertEqual(line_of("kind a\nhand a\nparts a b c d e\nelse a"), "parts")
        self.assertEqual(line_of("kind a\nhand a b c d e f g h i\nparts b\nelse a"), "parts")

    def test_wrong_lines_come_ahead_of_a_bad_book(self):
        self.assertEqual(line_of("kind a\nhand a b c d e f g h i\nparts b\nelse"), 4)
        self.assertEqual(line_of("kind a\nhand a b c d e f g h i\nparts b"), 4)
        self.assertEqual(line_of("kind a\nhand a\nparts b\nelse a\n"), 5)

    def test_all_short_texts(self):
        """What is read is the text of the book that comes of it, and nothing else is read."""
        right = 0
        for many in range(1, 6):
            for lines in itertools.product(WORDS, repeat=many):
                text = "\n".join(lines)
                try:
                    self.assertEqual(Book.parse(text).text(), text)
                    right += 1
                except PartsError:
                    pass
        # For kind a alone, and for kind b alone: no clause, or one of two; hand and parts, not both
        # empty, for the parts of a; for b, whose parts cannot be of kind a, just the hand state x.
        self.assertEqual(right, 3 * 3 + 1 * 3)


if __name__ == "__main__":
    unittest.main()
