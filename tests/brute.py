"""Other ways of finding what the package tells, for small books.

The first way tries all branches and surroundings up to a size, each once but for the order of its parts.
The second way tries all rows of at most so many parts by their states alone, without counts that are capped,
until nothing new is found; in the books that are made here no more than six parts are ever needed.
"""

import itertools
import random

from partstold.books import Book, Kind
from partstold.branches import state_of
from partstold.known import levels, lights, ticks, votes, work

MOST_PARTS = 6


def random_kind(chance, names, states, clauses):
    """Returns a kind with numbers of at most two, with hand states or parts."""
    common = chance.choice([0, 0.4, 0.4, 0.7])
    hand = [state for state in states if chance.random() < common]
    parts = [name for name in names if chance.random() < 0.6]
    if not hand and not parts:
        parts = [chance.choice(names)]
    row = []
    for index in range(min(clauses, chance.choice([0, 1, 2, 2, 3, 3, 4]))):
        conditions = []
        for step in range(chance.choice([0, 1, 1, 1, 2])):
            least, most = chance.choice([(0, 0), (1, None), (2, None), (1, 1), (0, 1), (0, None), (2, 1), (2, 0)])
            conditions.append((least, most, chance.sample(states, chance.choice([1, 1, 2]))))
        row.append((chance.choice(states), conditions))
    return Kind(hand, parts, row, chance.choice(states))


def random_book(seed, kinds=3, states=3, clauses=4):
    """Returns a book with at most so many kinds, states and clauses."""
    chance = random.Random(seed)
    names = ["ka", "kb", "kc", "kd"][:chance.randrange(kinds) + 1]
    words = ["x", "y", "z"][:max(2, chance.randrange(states) + 1)]
    return Book({name: random_kind(chance, names, words, clauses) for name in names})


def small_books(many):
    """Returns known books and so many random ones, among them some without any branches."""
    return [ticks(), lights(), work(), votes(1), votes(2), levels(2), levels(3), *[random_book(seed) for seed in range(many)]]


def rows_of_parts(choices, size):
    """Yields all tuples of branches with a size in all, for a list of pairs of a size and a branch."""
    if size == 0:
        yield ()
    for index, (own, branch) in enumerate(choices):
        if own <= size:
            for others in rows_of_parts(choices[index:], size - own):
                yield (branch, *others)


def branches(book, most):
    """Returns a dict from the kinds to the lists of pairs of a size and a branch, for all sizes up to the greatest."""
    found = {name: [] for name in book.names}
    for size in range(1, most + 1):
        new = {}
        for name in book.names:
            kind = book.kind_named(name)
            new[name] = [(size, (name, state)) for state in kind.hand if size == 1]
            choices = [row for part in kind.parts for row in found[part]]
            if size > 1:
                new[name] += [(size, (name, parts)) for parts in rows_of_parts(choices, size - 1)]
        for name in book.names:
            found[name] += new[name]
    return found


def surroundings(book, hole, most):
    """Returns a dict from the kinds to the lists of pairs of a size and a surrounding, for all sizes up to the greatest.

    Its hole is put at one place among equal tasks only.
    """
    below = branches(book, most - 1)
    found = {name: [] for name in book.names}
    found[hole].append((0, ()))
    for size in range(1, most + 1):
        new = {name: [] for name in book.names}
        for name in book.names:
            parts = book.kind_named(name).parts
            choices = [row for part in parts for row in below[part]]
            for inner_size, inner in [row for part in parts for row in found[part]]:
                for others in rows_of_parts(choices, size - 1 - inner_size):
                    new[name].append((size, (name, (inner, *others))))
        for name in book.names:
            found[name] += new[name]
    return found


def doubles(book, first_hole, second_hole, most):
    """Returns a dict from the kinds to the lists of pairs of a size and a double surrounding, for all sizes up to the greatest.

    Its first hole is to the left of the second one, whatever else stands beside them.
    """
    below = branches(book, most - 1)
    first, second = surroundings(book, first_hole, most - 1), surroundings(book, second_hole, most - 1)
    found = {name: [] for name in book.names}
    for size in range(1, most + 1):
        new = {name: [] for name in book.names}
        for name in book.names:
            parts = book.kind_named(name).parts
            choices = [row for part in parts for row in below[part]]
            inner = [(own, (thing,)) for part in parts for own, thing in found[part]]
            for one_size, one in [row for part in parts for row in first[part]]:
                for two_size, two in [row for part in parts for row in second[part]]:
                    inner.append((one_size + two_size, (one, two)))
            for own, things in inner:
                for others in rows_of_parts(choices, size - 1 - own):
                    new[name].append((size, (name, (*things, *others))))
        for name in book.names:
            found[name] += new[name]
    return found


def least_sizes(book):
    """Returns, for each kind, a dict from the states that are possible to the least sizes."""
    found = {name: {state: 1 for state in book.kind_named(name).hand} for name in book.names}
    changed = True
    while changed:
        changed = False
        for name in book.names:
            for states, size in part_rows(book, name, found):
                told = book.kind_named(name).told(states)
                if states and size + 1 < found[name].get(told, size + 2):
                    found[name][told] = size + 1
                    changed = True
    return found


def part_rows(book, name, found):
    """Returns pairs of the states and of the least size of all rows of parts of a kind, no parts among them."""
    sizes = {}
    for part in book.kind_named(name).parts:
        for state, size in found[part].items():
            sizes[state] = min(size, sizes.get(state, size))
    rows = []
    for many in range(MOST_PARTS + 1):
        for states in itertools.combinations_with_replacement(sorted(sizes), many):
            rows.append((states, sum(sizes[state] for state in states)))
    return rows


def least_climbs(book, starts):
    """Returns a dict from pairs of a kind of the top task and a row of states to the least sizes of surroundings.

    The starts are such pairs of the hole, or a dict from such pairs to sizes.
    """
    found = dict(starts) if isinstance(starts, dict) else {start: 0 for start in starts}
    sizes = least_sizes(book)
    others = {name: part_rows(book, name, sizes) for name in book.names}
    changed = True
    while changed:
        changed = False
        for (below, row), size in list(found.items()):
            for name in book.names:
                kind = book.kind_named(name)
                if below in kind.parts:
                    for states, more in others[name]:
                        place = name, tuple(kind.told([*states, state]) for state in row)
                        if size + more + 1 < found.get(place, size + more + 2):
                            found[place] = size + more + 1
                            changed = True
    return found


def least_forks(book, one, two):
    """Returns a dict from pairs of a kind of the top task and a row of four to the least sizes of double surroundings."""
    sizes = least_sizes(book)
    first, second = [least_climbs(book, [(kind, (old, new))]) for kind, old, new in [one, two]]
    starts = {}
    for name in book.names:
        kind = book.kind_named(name)
        ahead = [(pair, size) for (part, pair), size in first.items() if part in kind.parts]
        behind = [(pair, size) for (part, pair), size in second.items() if part in kind.parts]
        for others, more in part_rows(book, name, sizes) if ahead and behind else []:
            for ((a, b), own), ((c, d), their) in itertools.product(ahead, behind):
                row = tuple(kind.told([*others, *pair]) for pair in [(a, c), (b, c), (a, d), (b, d)])
                size = 1 + own + their + more
                starts[name, row] = min(size, starts.get((name, row), size))
    return least_climbs(book, starts)


def least_numbers(book, among):
    """Returns, for each kind, a dict from pairs of a state and a number to the least sizes of branches.

    The number is that of the tasks without parts whose state is among some states, where 4 stands for more, too.
    So do four parts with one state; no condition of the books that are made here counts as many.
    """
    found = {name: {(state, int(state in among)): 1 for state in book.kind_named(name).hand} for name in book.names}
    changed = True
    while changed:
        changed = False
        for name in book.names:
            kind = book.kind_named(name)
            for (states, many), size in sums_of_parts([found[part] for part in kind.parts]).items():
                place = kind.told(states), many
                if states and size + 1 < found[name].get(place, size + 2):
                    found[name][place] = size + 1
                    changed = True
    return found


def sums_of_parts(choices):
    """Returns a dict from pairs of ascending states and a number to the least sizes of rows of parts."""
    sums = {((), 0): 0}
    waiting = list(sums)
    while waiting:
        states, many = waiting.pop(0)
        for (state, more), size in [row for rows in choices for row in rows.items()]:
            place = tuple(sorted([*states, state])) if states.count(state) < 4 else states, min(4, many + more)
            if sums[states, many] + size < sums.get(place, 10 ** 9):
                sums[place] = sums[states, many] + size
                waiting.append(place)
    return sums


def leaves_of(thing):
    """Returns the list of the states of the tasks without parts of a branch, from left to right."""
    return [rest for kind, rest in tasks_in(thing) if isinstance(rest, str)]


def settings_of(book, branch):
    """Yields all branches that come of setting the tasks without parts of a branch in any way, with the number of settings."""
    kind, rest = branch
    if isinstance(rest, str):
        for state in book.kind_named(kind).hand:
            yield int(state != rest), (kind, state)
    else:
        for row in itertools.product(*[list(settings_of(book, part)) for part in rest]):
            yield sum(many for many, part in row), (kind, tuple(part for many, part in row))


def random_branch(book, chance, kind, depth, width):
    """Returns a branch of a kind of which there is one, at most so deep and its tasks with so many parts if possible."""
    sizes = least_sizes(book)
    own = book.kind_named(kind)
    parts = [part for part in own.parts if sizes[part]]
    if own.hand and (depth <= 0 or not parts or chance.random() < 0.3):
        return kind, chance.choice(own.hand)
    if depth <= 0:
        # A least branch ends, whichever parts may be parts of each other.
        least_of = min(parts, key=lambda part: min(sizes[part].values()))
        return kind, (random_branch(book, chance, least_of, depth - 1, 1),)
    many = chance.randrange(width) + 1
    return kind, tuple(random_branch(book, chance, chance.choice(parts), depth - 1, width) for step in range(many))


def tasks_in(branch):
    """Yields each task of a branch or a surrounding but its hole."""
    if branch:
        yield branch
        if not isinstance(branch[1], str):
            for part in branch[1]:
                yield from tasks_in(part)


def counting_in(book, branch):
    """Returns the pairs of a kind and an index that count in a branch."""
    rows = set()
    for kind, rest in tasks_in(branch):
        if not isinstance(rest, str):
            rows.add((kind, book.kind_named(kind).counting([state_of(book, part) for part in rest])))
    return rows


def changed_book(book, seed):
    """Returns a book that is another one but for some of what a kind has."""
    chance = random.Random(seed)
    kinds = {name: book.kind_named(name) for name in book.names}
    name = chance.choice(book.names)
    kind = kinds[name]
    clauses = list(kind.clauses)
    at = chance.randrange(len(clauses) + 1)
    if chance.random() < 0.3:
        kinds[name] = Kind(kind.hand, kind.parts, clauses, chance.choice(["x", "y", "z"]))
    elif chance.random() < 0.4 and at < len(clauses):
        kinds[name] = Kind(kind.hand, kind.parts, clauses[:at] + clauses[at + 1:], kind.last)
    else:
        new = (chance.choice(["x", "y", "z"]), [(chance.choice([0, 1, 2]), chance.choice([None, 0, 1]), [chance.choice("xyz")])])
        clauses.insert(at, new)
        kinds[name] = Kind(kind.hand, kind.parts, clauses[:6], kind.last)
    if chance.random() < 0.3:
        others = [part for part in book.names if chance.random() < 0.8]
        kinds[name] = Kind(kinds[name].hand or ["x"], others, kinds[name].clauses, kind.last)
    return Book(kinds)


def least_pairs(one, other):
    """Returns, for each kind of two books, a dict from the pairs of states that branches of both have to the least sizes."""
    names = [name for name in one.names if name in other.names]
    kinds = {name: (one.kind_named(name), other.kind_named(name)) for name in names}
    found = {}
    for name, (first, second) in kinds.items():
        found[name] = {(state, state): 1 for state in first.hand if state in second.hand}
    changed = True
    while changed:
        changed = False
        for name, (first, second) in kinds.items():
            sizes = {}
            for part in first.parts:
                for pair, size in found[part].items() if part in second.parts else []:
                    sizes[pair] = min(size, sizes.get(pair, size))
            for many in range(1, MOST_PARTS + 1):
                for pairs in itertools.combinations_with_replacement(sorted(sizes), many):
                    told = first.told([pair[0] for pair in pairs]), second.told([pair[1] for pair in pairs])
                    size = 1 + sum(sizes[pair] for pair in pairs)
                    if size < found[name].get(told, size + 1):
                        found[name][told] = size
                        changed = True
    return found
