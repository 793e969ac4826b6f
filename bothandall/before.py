"""Rows with the same end, the rows before a line, and plans from one row to another one."""

from bothandall.errors import BadLine, BadRow, OtherSize
from bothandall.houses import both_and_all, pieces, require_house
from bothandall.kinds import has_form, is_ascending, is_integer
from bothandall.reach import are_closed, reached, way_to
from bothandall.rows import (
    after_meeting, are_some_lots, is_line, is_list_of_meetings, require_row, rows_behind,
)
from bothandall.straight import require_straight


def require_two_rows(house, one, other):
    """Raise BadRow with the first of two values that is no row, then OtherSize unless they are equally long."""
    for row in (one, other):
        if not are_some_lots(house, row):
            raise BadRow(row)
    if len(one) != len(other):
        raise OtherSize(other)


def counts_of(house, row):
    """For each piece how many hands hold it."""
    return [sum([house[p][x] for x in row]) for p in pieces(house)]


def piece_counts(house, row):
    """The tuple that tells for each piece of a house how many hands hold it."""
    require_row(house, row)
    return tuple(counts_of(house, row))


def unlike_pieces(house, one, other):
    """The pieces that more hands hold in one of two rows than in the other one."""
    many, more = counts_of(house, one), counts_of(house, other)
    return [p for at, p in enumerate(pieces(house)) if many[at] != more[at]]


def judge_same_end(house, one, other):
    """A certificate that two rows have the same end, or a piece that more hands hold in one of them."""
    require_straight(house)
    require_two_rows(house, one, other)
    unlike = unlike_pieces(house, one, other)
    if len(unlike) == 0:
        return ("same",)
    return ("piece", unlike[0])


def same_end_holds(house, one, other, thing):
    """Whether any value tells rightly whether two rows have the same end."""
    require_straight(house)
    require_two_rows(house, one, other)
    unlike = unlike_pieces(house, one, other)
    if has_form(thing, "piece", 1):
        return is_integer(thing[1]) and thing[1] in unlike
    return has_form(thing, "same", 0) and len(unlike) == 0


def signs_of_lots(house):
    """For each lot a number that tells its pieces, such that the numbers of a row can be added up."""
    signs = [0] * len(house)
    for at, p in enumerate(pieces(house)):
        for x in range(len(house)):
            # Three bits for each piece are enough: a row has at most six hands.
            signs[x] += house[p][x] << (3 * at)
    return signs


def rows_before(house, line):
    """The ascending tuple of the rows of a straight house whose end is a line."""
    require_straight(house)
    if not is_line(house, line):
        raise BadLine(line)
    signs = signs_of_lots(house)
    lot_with_sign = {sign: lot for lot, sign in enumerate(signs)}
    # Pairs of the lots of the hands ahead, and of what the numbers of the others have to add up to.
    begun = [((), sum([signs[x] for x in line]))]
    for _ in range(len(line) - 1):
        begun = [((*row, x), left - signs[x]) for row, left in begun for x in range(len(house))]
    return tuple((*row, lot_with_sign[left]) for row, left in begun if left in lot_with_sign)


def all_meetings(hands):
    """All meetings of so many hands."""
    return [(i, j) for i in range(hands) for j in range(hands) if i != j]


def steps_of_hands(house, hands):
    """A function that gives all meetings of a row, and the rows behind them."""
    tables = both_and_all(house)
    meetings = all_meetings(hands)
    return lambda row: [(meeting, after_meeting(tables, row, meeting)) for meeting in meetings]


def judge_led(house, one, other):
    """A plan with fewest meetings from one row to another one, or a closed lot of rows without the other."""
    require_house(house)
    require_two_rows(house, one, other)
    came = reached(one, steps_of_hands(house, len(one)))
    if other in came:
        return ("plan", tuple(way_to(came, other)))
    return ("closed", tuple(sorted(came)))


def led_holds(house, one, other, thing):
    """Whether any value tells rightly whether a plan leads one row to another one."""
    require_house(house)
    require_two_rows(house, one, other)
    if has_form(thing, "plan", 1):
        return is_list_of_meetings(len(one), thing[1]) and is_shortest(house, one, other, thing[1])
    if has_form(thing, "closed", 1):
        return are_rows_without(house, one, other, thing[1])
    return False


def is_shortest(house, one, other, plan):
    """Whether a plan leads one row to another one, with as few meetings as any."""
    if rows_behind(house, one, plan)[-1] != other:
        return False
    came = reached(one, steps_of_hands(house, len(one)))
    return len(plan) == len(way_to(came, other))


def are_rows_without(house, one, other, thing):
    """Whether any value is an ascending tuple of rows that is closed, with one row and without another one."""
    if not isinstance(thing, tuple):
        return False
    if not all(are_some_lots(house, row) and len(row) == len(one) for row in thing):
        return False
    if not is_ascending(thing) or one not in thing or other in thing:
        return False
    return are_closed(thing, steps_of_hands(house, len(one)))
