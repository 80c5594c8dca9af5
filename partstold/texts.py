"""The lines of the text of a book (point 6): written from kinds, and read."""

from partstold.errors import BadText
from partstold.forms import MOST_CLAUSES, MOST_CONDITIONS, are_ascending, is_name

MOST_KINDS = 4
DIGITS = "0123456789"
NO_MOST = "*"
BETWEEN = "/"


def kind_lines(name, kind):
    """Returns the lines of a kind with its name."""
    first = [line_of("kind", [name]), line_of("hand", kind.hand), line_of("parts", kind.parts)]
    clauses = [clause_line(state, conditions) for state, conditions in kind.clauses]
    return first + clauses + [line_of("else", [kind.last])]


def line_of(word, names):
    """Returns the line of a word and of the names behind it."""
    return " ".join([word, *names])


def clause_line(state, conditions):
    """Returns the line of a clause."""
    words = [f"{state}:"]
    for index, condition in enumerate(conditions):
        if index > 0:
            words.append(BETWEEN)
        words.extend(condition_words(condition))
    return " ".join(words)


def condition_words(condition):
    """Returns what stands in a line for a condition."""
    least, most, states = condition
    return [str(least), NO_MOST if most is None else str(most), *states]


class Lines:
    """The lines of a text, which are read one after the other."""

    def __init__(self, text):
        self.rows = text.split("\n")
        # As lines are counted from 1, this is the number of the line read last, too.
        self.many_read = 0

    def are_left(self):
        """Tells whether there is a line that has not been read."""
        return self.many_read < len(self.rows)

    def following(self):
        """Reads one more line, and returns what stands in it."""
        self.many_read += 1
        if self.many_read > len(self.rows):
            raise BadText(self.many_read)
        return self.rows[self.many_read - 1].split(" ")


def read_kinds(text):
    """Returns rows of a name, hand states, kinds of parts, clauses and a last state."""
    lines = Lines(text)
    rows = []
    name_ahead = ""
    while lines.are_left():
        name = read_name(lines, "kind", lines.following())
        if name <= name_ahead or len(rows) == MOST_KINDS:
            raise BadText(lines.many_read)
        hand, parts, clauses, last = read_kind(lines)
        rows.append((name, hand, parts, clauses, last))
        name_ahead = name
    return rows


def read_kind(lines):
    """Returns what the lines behind the name of a kind tell."""
    hand = read_names(lines, "hand")
    parts = read_names(lines, "parts")
    if len(hand) + len(parts) == 0:
        raise BadText(lines.many_read)
    clauses = []
    words = lines.following()
    while words[0] != "else":
        if len(clauses) == MOST_CLAUSES:
            raise BadText(lines.many_read)
        clauses.append(read_clause(lines, words))
        words = lines.following()
    return hand, parts, clauses, read_name(lines, "else", words)


def read_name(lines, word, words):
    """Returns the name behind a word, which stand in the line read last."""
    if words[0] != word or len(words) != 2 or not is_name(words[1]):
        raise BadText(lines.many_read)
    return words[1]


def read_names(lines, word):
    """Reads a line, and returns the names that stand in it behind a word."""
    words = lines.following()
    if words[0] != word or not are_ascending(words[1:]):
        raise BadText(lines.many_read)
    return words[1:]


def read_clause(lines, words):
    """Returns the clause whose words stand in the line read last."""
    state = words[0][:-1]
    groups = parted(words[1:])
    if words[0] != f"{state}:" or not is_name(state) or len(groups) > MOST_CONDITIONS:
        raise BadText(lines.many_read)
    if not all([tells_condition(group) for group in groups]):
        raise BadText(lines.many_read)
    return state, [told_condition(group) for group in groups]


def parted(words):
    """Returns the lists of words that the signs between them part, none of no words."""
    if len(words) == 0:
        return []
    groups = [[]]
    for word in words:
        if word == BETWEEN:
            groups.append([])
        else:
            groups[-1].append(word)
    return groups


def tells_condition(words):
    """Tells whether words stand for a condition."""
    if len(words) < 3 or not is_digit_word(words[0]):
        return False
    return (words[1] == NO_MOST or is_digit_word(words[1])) and are_ascending(words[2:])


def is_digit_word(word):
    """Tells whether a word is a single digit."""
    return len(word) == 1 and word in DIGITS


def told_condition(words):
    """Returns the condition that words stand for."""
    return int(words[0]), None if words[1] == NO_MOST else int(words[1]), words[2:]
