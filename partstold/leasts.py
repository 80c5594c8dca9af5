"""Least branches (point 8), found for all kinds and states at once.

A least branch may have far more tasks than fit into a computer. As equal parts are one and the same
tuple here, it takes little room, but whoever goes through its tasks one by one may be long at it.
"""


def least_branches(rules):
    """Returns, for each kind, a dict from the states that are possible to sizes and least branches."""
    found = {}
    for name, rule in rules.items():
        found[name] = {state: (1, (name, state)) for state in rule.hand_states}
    changed = True
    while changed:
        changed = False
        for name, rule in rules.items():
            rows = with_parts(name, rule, least_parts(rule, found))
            for state, row in rows.items():
                if state not in found[name] or row[0] < found[name][state][0]:
                    found[name][state] = row
                    changed = True
    return found


def least_parts(rule, found):
    """Returns a dict from the states that a part can have to sizes and least branches."""
    parts = {}
    for state in rule.state_row:
        rows = [found[name][state] for name in rule.part_kinds if state in found[name]]
        if len(rows) > 0:
            parts[state] = min(rows, key=lambda row: row[0])
    return parts


def with_parts(name, rule, parts):
    """Returns a dict from the states of tasks with such parts to sizes and least branches."""
    best = {}
    for counts, size in counts_of_parts(rule, parts):
        state = rule.telling[counts]
        if state not in best or size < best[state][1]:
            best[state] = (counts, size)
    told = {}
    for state, (counts, size) in best.items():
        told[state] = (size + 1, (name, chosen_parts(rule, parts, counts)))
    return told


def counts_of_others(rule, parts):
    """Returns pairs of all counts that parts can have, perhaps no parts, and of their least size."""
    rows = [((), 0)]
    for state, cap in zip(rule.state_row, rule.caps):
        if state in parts:
            each = parts[state][0]
            rows = [((*counts, many), size + many * each) for counts, size in rows for many in range(cap + 1)]
        else:
            rows = [((*counts, 0), size) for counts, size in rows]
    return rows


def counts_of_parts(rule, parts):
    """Returns what counts_of_others does, for one or more parts."""
    nothing, *rows = counts_of_others(rule, parts)
    uncounted = least_uncounted(rule, parts)
    if uncounted is not None:
        rows.append((nothing[0], uncounted[0]))
    return rows


def chosen_others(rule, parts, counts):
    """Returns a tuple of the fewest and least parts that have these counts, perhaps of none."""
    rows = [(parts[state][1],) * many for state, many in zip(rule.state_row, counts) if many > 0]
    return tuple([branch for row in rows for branch in row])


def chosen_parts(rule, parts, counts):
    """Returns what chosen_others does, for one or more parts."""
    chosen = chosen_others(rule, parts, counts)
    return chosen if len(chosen) > 0 else (least_uncounted(rule, parts)[1],)


def least_uncounted(rule, parts):
    """Returns the size and the branch of a least part whose state is not counted, None if there is none."""
    rows = [parts[state] for state, cap in zip(rule.state_row, rule.caps) if cap == 0 and state in parts]
    return min(rows, key=lambda row: row[0]) if len(rows) > 0 else None
