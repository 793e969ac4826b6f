"""Ends: the lines to which meetings of strange pairs lead a row."""

from bothandall.errors import BadLine
from bothandall.houses import both_and_all, require_house
from bothandall.kinds import has_form, is_ascending
from bothandall.reach import are_closed, reached, way_to
from bothandall.rows import (
    after_meeting, are_some_lots, in_line, is_line, is_list_of_meetings, require_row, strange_in,
)
from bothandall.straight import five_lots


def sorted_row(row):
    """The lots of a row, ascending as integers, with repeats."""
    return tuple(sorted(row))


def steps_of(house):
    """A function that gives the meetings of strange pairs of a sorted row, told by their lots."""
    tables = both_and_all(house)

    def steps(row):
        found = []
        for i, j in strange_in(house, row):
            found.append(((row[i], row[j]), sorted_row(after_meeting(tables, row, (i, j)))))
        return found

    return steps


def sorted_rows(house, row):
    """All sorted rows that come of a row, each with what it came from."""
    return reached(sorted_row(row), steps_of(house))


def rows_at_rest(house, came):
    """The sorted rows at rest among some."""
    return [row for row in came if len(strange_in(house, row)) == 0]


def plan_to(house, row, came, end):
    """The plan by which a row comes to a sorted row."""
    tables = both_and_all(house)
    plan = []
    for x, y in way_to(came, end):
        # Strange lots are unlike, so they are in two hands.
        meeting = (row.index(x), row.index(y))
        plan.append(meeting)
        row = after_meeting(tables, row, meeting)
    return tuple(plan)


def end_behind(house, row, plan):
    """The end to which a plan leads a row; None if it does not, or if other pairs than strange ones meet."""
    tables = both_and_all(house)
    for i, j in plan:
        if (min(i, j), max(i, j)) not in strange_in(house, row):
            return None
        row = after_meeting(tables, row, (i, j))
    if len(strange_in(house, row)) > 0:
        return None
    return in_line(house, row)


def ends_of(house, row):
    """The ascending tuple of the ends of a row."""
    require_row(house, row)
    at_rest = rows_at_rest(house, sorted_rows(house, row))
    return tuple(sorted([in_line(house, lots) for lots in at_rest]))


def require_line(house, row, line):
    """Raise the errors of a house, of a row and of a line of as many lots, in this order."""
    require_row(house, row)
    if not is_line(house, line) or len(line) != len(row):
        raise BadLine(line)


def judge_end(house, row, line):
    """A plan that leads a row to a line, or a closed lot of sorted rows without it."""
    require_line(house, row, line)
    came = sorted_rows(house, row)
    end = sorted_row(line)
    if end in came:
        return ("plan", plan_to(house, row, came, end))
    return ("closed", tuple(sorted(came)))


def end_holds(house, row, line, thing):
    """Whether any value is a certificate for a row and a line."""
    require_line(house, row, line)
    if has_form(thing, "plan", 1):
        return is_list_of_meetings(len(row), thing[1]) and end_behind(house, row, thing[1]) == line
    if has_form(thing, "closed", 1):
        return are_sorted_rows(house, len(row), thing[1]) and is_bar(house, row, line, thing[1])
    return False


def are_sorted_rows(house, hands, thing):
    """Whether any value is an ascending tuple of sorted rows of so many hands."""
    if not isinstance(thing, tuple):
        return False
    if not all(are_some_lots(house, row) and len(row) == hands for row in thing):
        return False
    return is_ascending(thing) and all(row == sorted_row(row) for row in thing)


def is_bar(house, row, line, rows):
    """Whether some sorted rows are closed, and have a row, but not a line."""
    if sorted_row(row) not in rows or sorted_row(line) in rows:
        return False
    return are_closed(rows, steps_of(house))


def judge_one_end(house, row):
    """The only end of a row, or two plans that lead to unlike ends."""
    require_row(house, row)
    came = sorted_rows(house, row)
    at_rest = rows_at_rest(house, came)
    if len(at_rest) == 1:
        return ("one", in_line(house, at_rest[0]))
    return ("two", plan_to(house, row, came, at_rest[0]), plan_to(house, row, came, at_rest[1]))


def one_end_holds(house, row, thing):
    """Whether any value tells rightly whether a row has one end."""
    require_row(house, row)
    if has_form(thing, "two", 2):
        return are_two_plans(house, row, thing[1], thing[2])
    # A bool would pass for a lot in a comparison.
    return has_form(thing, "one", 1) and is_line(house, thing[1]) and ends_of(house, row) == (thing[1],)


def are_two_plans(house, row, one, other):
    """Whether any two values are plans that lead a row to unlike ends."""
    if not is_list_of_meetings(len(row), one) or not is_list_of_meetings(len(row), other):
        return False
    line, second = end_behind(house, row, one), end_behind(house, row, other)
    return line is not None and second is not None and line != second


def judge_ends(house):
    """A certificate that each row of a house has one end, or a row of three hands with two ends."""
    require_house(house)
    five = five_lots(house)
    if five is None:
        return ("straight",)
    # Be they flat or leaning: c meets a, and b is between, or c meets b, and a is between.
    return ("row", five[2:5], ((0, 2),), ((1, 2),))


def ends_hold(house, thing):
    """Whether any value tells rightly whether each row of a house has one end."""
    require_house(house)
    if has_form(thing, "row", 3):
        _, row, one, other = thing
        return are_some_lots(house, row) and len(row) == 3 and are_two_plans(house, row, one, other)
    return has_form(thing, "straight", 0) and five_lots(house) is None


def choices(row, many):
    """All choices of so many of the hands of a row, by their lots."""
    found = [()]
    for lot in row:
        found = found + [(*some, lot) for some in found]
    return [some for some in found if len(some) == many]


def taken_together(table, lots):
    """What some lots have both, or all, as a table tells for each two."""
    found = lots[0]
    for lot in lots:
        found = table[found][lot]
    return found


def floors(house, row):
    """For each place of an end the lot that it is around for sure."""
    require_row(house, row)
    boths, alls = both_and_all(house)
    return bounds(alls, boths, row)[::-1]


def ceilings(house, row):
    """For each place of an end the lot that it is within for sure."""
    require_row(house, row)
    boths, alls = both_and_all(house)
    return bounds(boths, alls, row)


def bounds(outer, inner, row):
    """For each number of hands, from 1 on, outer of the lots that any so many hands have by inner."""
    found = []
    for many in range(1, len(row) + 1):
        lots = [taken_together(inner, some) for some in choices(row, many)]
        found.append(taken_together(outer, lots))
    return tuple(found)
