"""Rows that are still for ties, and the plans of ties that lead there."""

from bothandall.houses import both_and_all
from bothandall.reach import reached
from bothandall.rows import after_meeting, is_list_of_meetings, require_row
from bothandall.ties import order_without_ring, require_ties


def require_tied(house, row, ties):
    """Raise the errors of a house, of a row and of ties, in this order."""
    require_row(house, row)
    require_ties(len(row), ties)


def require_no_ring(house, row, ties):
    """Raise the errors of a house, of a row and of ties, and then HasRing if there is a ring."""
    require_row(house, row)
    order_without_ring(len(row), ties)


def is_unchanged(house, row, ties):
    """Whether no tie changes a row."""
    return all(house[row[i]][row[j]] == 1 for i, j in ties)


def steps_by_ties(house, ties):
    """A function that gives the ties that change a row, and the rows to which they lead it."""
    tables = both_and_all(house)

    def steps(row):
        changing = [(i, j) for i, j in ties if house[row[i]][row[j]] == 0]
        return [(tie, after_meeting(tables, row, tie)) for tie in changing]

    return steps


def is_still(house, row, ties):
    """Whether no tie changes a row."""
    require_tied(house, row, ties)
    return is_unchanged(house, row, ties)


def ended_plan(house, row, ties):
    """A tied plan behind which a row is still."""
    require_no_ring(house, row, ties)
    steps = steps_by_ties(house, ties)
    plan = []
    ways = steps(row)
    while len(ways) > 0:
        tie, after = ways[0]
        plan.append(tie)
        ways = steps(after)
    return tuple(plan)


def is_tied_plan(house, row, ties, thing):
    """Whether any value is a plan of ties each of which changes the row where it stands."""
    require_tied(house, row, ties)
    if not is_list_of_meetings(len(row), thing):
        return False
    steps = steps_by_ties(house, ties)
    for meeting in thing:
        ways = dict(steps(row))
        if meeting not in ways:
            return False
        row = ways[meeting]
    return True


def still_ends(house, row, ties):
    """The ascending tuple of the still rows to which tied plans lead a row."""
    require_no_ring(house, row, ties)
    came = reached(row, steps_by_ties(house, ties))
    return tuple(sorted([lots for lots in came if is_unchanged(house, lots, ties)]))


def longest_tied(house, row, ties):
    """How many meetings the longest tied plan of a row has."""
    require_no_ring(house, row, ties)
    steps = steps_by_ties(house, ties)
    many = 0
    rows = rows_after([row], steps)
    while len(rows) > 0:
        many += 1
        rows = rows_after(rows, steps)
    return many


def rows_after(rows, steps):
    """The rows to which a step leads one of some rows, each one once."""
    found = {}
    for row in rows:
        for _, after in steps(row):
            found[after] = True
    return list(found)
