"""What can be reached from a row by steps, the shortest ways there, and hands that pairs lead to.

In the functions for rows `steps` is a function that gives, for a row, the list of the pairs of a name and of
the row to which the step of this name leads it.
"""


def reached(start, steps):
    """All that steps lead to, nearest first, each with the pair of what it came from and by which step."""
    came = {start: None}
    rows = [start]
    at = 0
    while at < len(rows):
        row = rows[at]
        at += 1
        for name, after in steps(row):
            if after not in came:
                came[after] = (row, name)
                rows.append(after)
    return came


def way_to(came, row):
    """The list of the names of the steps by which a reached row came."""
    names = []
    while came[row] is not None:
        row, name = came[row]
        names.append(name)
    return names[::-1]


def are_closed(rows, steps):
    """Whether each step leads each of some rows to one of them."""
    known = {row: True for row in rows}
    return all(after in known for row in rows for _, after in steps(row))


def leads_of(hands, pairs):
    """The pairs of hands from the first one of which some pairs lead to the second one."""
    leads = {pair: True for pair in pairs}
    for k in range(hands):
        for i in range(hands):
            for j in range(hands):
                if (i, k) in leads and (k, j) in leads:
                    leads[(i, j)] = True
    return leads
