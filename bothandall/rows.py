"""Rows of lots that hands hold, meetings of two hands, and plans of meetings."""

from bothandall.errors import BadMeeting, BadNumber, BadPlan, BadRow
from bothandall.houses import both_and_all, require_house
from bothandall.kinds import are_integers_below, is_ascending, is_integer_from

MOST_HANDS = 6
MOST_MEETINGS = 20


def are_some_lots(house, thing):
    """Whether any value is a tuple of 1 to 6 lots of a house."""
    return are_integers_below(thing, len(house)) and 1 <= len(thing) <= MOST_HANDS


def is_meeting(hands, thing):
    """Whether any value is a meeting of two of so many hands."""
    return are_integers_below(thing, hands) and len(thing) == 2 and thing[0] != thing[1]


def are_ascending_meetings(hands, thing):
    """Whether any value is an ascending tuple of meetings of so many hands."""
    if not isinstance(thing, tuple) or not all(is_meeting(hands, pair) for pair in thing):
        return False
    return is_ascending(thing)


def is_list_of_meetings(hands, thing):
    """Whether any value is a plan of so many hands, without a look at whether these are a number of hands."""
    if not isinstance(thing, tuple) or len(thing) > MOST_MEETINGS:
        return False
    return all(is_meeting(hands, meeting) for meeting in thing)


def is_row(house, thing):
    """Whether any value is a row of a house."""
    require_house(house)
    return are_some_lots(house, thing)


def is_plan(hands, thing):
    """Whether any value is a plan of so many hands."""
    require_hands(hands)
    return is_list_of_meetings(hands, thing)


def require_hands(hands):
    """Raise BadNumber unless any value is a number of hands."""
    if not is_integer_from(hands, 1, MOST_HANDS):
        raise BadNumber(hands)


def require_row(house, row):
    """Raise the errors of a house and of a row, in this order."""
    if not is_row(house, row):
        raise BadRow(row)


def require_plan(hands, plan):
    """Raise the errors of a number of hands and of a plan, in this order."""
    if not is_plan(hands, plan):
        raise BadPlan(plan)


def require_two_plans(hands, one, other):
    """Raise BadNumber, or BadPlan with the first of two values that is no plan of so many hands."""
    require_plan(hands, one)
    require_plan(hands, other)


def require_planned(house, row, plan):
    """Raise the errors of a house, of a row and of a plan, in this order."""
    require_row(house, row)
    require_plan(len(row), plan)


def all_rows(many, hands):
    """The ascending list of all rows of so many hands, of so many lots."""
    rows = [()]
    for _ in range(hands):
        rows = [(*row, x) for row in rows for x in range(many)]
    return rows


def after_meeting(tables, row, meeting):
    """The row behind a meeting; the tables tell what each two lots have both and all."""
    boths, alls = tables
    i, j = meeting
    lots = list(row)
    lots[i] = boths[row[i]][row[j]]
    lots[j] = alls[row[i]][row[j]]
    return tuple(lots)


def met(house, row, meeting):
    """The row behind a meeting."""
    require_row(house, row)
    if not is_meeting(len(row), meeting):
        raise BadMeeting(meeting)
    return after_meeting(both_and_all(house), row, meeting)


def rows_behind(house, row, plan):
    """The list of the row, and of the rows behind each meeting of a plan."""
    tables = both_and_all(house)
    rows = [row]
    for meeting in plan:
        row = after_meeting(tables, row, meeting)
        rows.append(row)
    return rows


def behind(house, row, plan):
    """The row behind a plan."""
    require_planned(house, row, plan)
    return rows_behind(house, row, plan)[-1]


def are_strange(house, x, y):
    """Whether neither of two lots is within the other one."""
    return house[x][y] == 0 and house[y][x] == 0


def strange_in(house, row):
    """The ascending list of the pairs of strange hands."""
    hands = range(len(row))
    return [(i, j) for i in hands for j in hands if i < j and are_strange(house, row[i], row[j])]


def ledger(house, row, plan):
    """The numbers of the strange pairs of a row, and behind each meeting of a plan."""
    require_planned(house, row, plan)
    return tuple(len(strange_in(house, lots)) for lots in rows_behind(house, row, plan))


def strange_pairs(house, row):
    """The ascending tuple of the pairs of strange hands."""
    require_row(house, row)
    return tuple(strange_in(house, row))


def is_at_rest(house, row):
    """Whether a row has no strange pair."""
    require_row(house, row)
    return len(strange_in(house, row)) == 0


def in_line(house, row):
    """The line of a row that is at rest."""
    # The fewer lots are around a lot, the farther behind it stands.
    return tuple(sorted(row, key=lambda x: -sum(house[x])))


def is_line(house, thing):
    """Whether any value is a line of 1 to 6 lots of a house."""
    if not are_some_lots(house, thing):
        return False
    return all(house[thing[at]][thing[at + 1]] == 1 for at in range(len(thing) - 1))


def line_of(house, row):
    """The line of a row at rest, None for other rows."""
    require_row(house, row)
    if len(strange_in(house, row)) > 0:
        return None
    return in_line(house, row)


def resting_plan(house, row):
    """A plan of meetings of strange pairs behind which a row is at rest."""
    require_row(house, row)
    tables = both_and_all(house)
    plan = []
    strange = strange_in(house, row)
    while len(strange) > 0:
        plan.append(strange[0])
        row = after_meeting(tables, row, strange[0])
        strange = strange_in(house, row)
    return tuple(plan)
