"""Least branches (points 8 and 19), found for all kinds and states at once.

A least branch may have far more tasks than fit into a computer. As equal parts are one and the same
tuple here, it takes little room, but whoever goes through its tasks one by one may be long at it.
"""

from partstold.waiting import Waiting


class Sums:
    """What the parts of a task of one kind come to, for all parts among the branches that are taken so far.

    A sum is a tuple of the capped counts of the parts, of the number of wanted tasks in them (where the
    greatest number stands for all greater ones, too), and of whether there is a part at all. Each has the
    least size of such parts, and the chain of them: the last part and the chain of those ahead of it.
    """

    def __init__(self, rule, greatest):
        self.rule = rule
        self.greatest = greatest
        self.chains = {((0,) * len(rule.state_row), 0, False): (0, None)}
        self.taken = {}

    def take(self, state, many, size, branch):
        """Takes a branch with a state and a number of wanted tasks as a part, as often as it is of use.

        Returns the list of the sums that have got less by this. Branches come in ascending order of their size,
        so that one like another that was taken before is of no use.
        """
        reached = []
        if (state, many) not in self.taken:
            self.taken[state, many] = True
            fresh = list(self.chains)
            while len(fresh) > 0:
                fresh = self.with_one_more(fresh, state, many, size, branch)
                reached.extend(fresh)
        return reached

    def with_one_more(self, places, state, many, size, branch):
        """Adds a branch to the parts of some sums once. Returns the list of the sums that have got less by this."""
        better = []
        for counts, number, has_part in places:
            size_ahead, chain = self.chains[counts, number, has_part]
            place = (self.rule.with_one_more(counts, state), min(number + many, self.greatest), True)
            if place not in self.chains or size_ahead + size < self.chains[place][0]:
                self.chains[place] = (size_ahead + size, (branch, chain))
                better.append(place)
        return better


class Search:
    """A search for the least branches of each kind with each state and each number of wanted tasks.

    A wanted task is one without parts whose state is among some states.
    """

    def __init__(self, rules, among, greatest):
        self.rules = rules
        self.sums = {name: Sums(rule, greatest) for name, rule in rules.items()}
        self.found = {name: {} for name in rules}
        self.sizes = {name: {} for name in rules}
        self.waiting = Waiting()
        for name, rule in rules.items():
            for state in rule.hand_states:
                self.offer(name, state, min(1 if state in among else 0, greatest), 1, None)

    def offer(self, name, state, many, size, chain):
        """Lets what may be a least branch wait; the chain is that of its parts, None if it has none."""
        key = (state, many)
        if key not in self.sizes[name] or size < self.sizes[name][key]:
            self.sizes[name][key] = size
            self.waiting.wait(size, (name, state, many, chain))

    def find_all(self):
        """Finds all least branches in ascending order of their size, as the parts of each are smaller ones."""
        while not self.waiting.is_empty():
            size, rows = self.waiting.leave()
            for name, state, many, chain in rows:
                if (state, many) not in self.found[name]:
                    branch = (name, state if chain is None else unchained(chain))
                    self.found[name][state, many] = (size, branch)
                    self.take(name, state, many, size, branch)

    def take(self, name, state, many, size, branch):
        """Takes a branch as a part wherever it may be one."""
        for above, rule in self.rules.items():
            # Where two books tell unlike states of a branch, it has no state that could be counted.
            if name in rule.part_kinds and state in rule.places:
                sums = self.sums[above]
                for counts, number, has_part in sums.take(state, many, size, branch):
                    size_of_parts, chain = sums.chains[counts, number, has_part]
                    self.offer(above, rule.telling[counts], number, size_of_parts + 1, chain)


def unchained(chain):
    """Returns the tuple of the parts of a chain."""
    parts = []
    while chain is not None:
        part, chain = chain
        parts.append(part)
    return tuple(parts)


def least_counted(rules, among, greatest):
    """Returns, for each kind, a dict from pairs of a state and a number to sizes and least branches.

    The number is that of the tasks without parts whose state is among some states; the greatest one stands for
    all greater ones, too.
    """
    search = Search(rules, among, greatest)
    search.find_all()
    return search.found


def least_branches(rules):
    """Returns, for each kind, a dict from the states that are possible to sizes and least branches."""
    found = least_counted(rules, [], 0)
    return {name: {state: row for (state, many), row in rows.items()} for name, rows in found.items()}


def least_parts(rule, found):
    """Returns a dict from the states that a part can have to sizes and least branches."""
    parts = {}
    for state in rule.state_row:
        rows = [found[name][state] for name in rule.part_kinds if state in found[name]]
        if len(rows) > 0:
            parts[state] = min(rows, key=lambda row: row[0])
    return parts


def counts_of_others(rule, parts):
    """Returns pairs of all counts that parts can have, perhaps no parts, and of their least size."""
    rows = [((), 0)]
    for state, cap in zip(rule.state_row, rule.caps):
        if state in parts:
            each = parts[state][0]
            rows = [((*counts, many), size + many * each) for counts, size in rows for many in range(cap + 1)]
        else:
            rows = [((*counts, 0), size) for counts, size in rows]
    return rows


def counts_of_parts(rule, parts):
    """Returns the counts that counts_of_others does, without sizes, for one or more parts."""
    nothing, *rows = [counts for counts, size in counts_of_others(rule, parts)]
    # Parts whose states are not counted are parts all the same.
    uncounted = [state for state, cap in zip(rule.state_row, rule.caps) if cap == 0 and state in parts]
    return [nothing, *rows] if len(uncounted) > 0 else rows


def chosen_others(rule, parts, counts):
    """Returns a tuple of the fewest and least parts that have these counts, perhaps of none."""
    rows = [(parts[state][1],) * many for state, many in zip(rule.state_row, counts) if many > 0]
    return tuple([branch for row in rows for branch in row])
