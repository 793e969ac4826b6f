"""Maps from one house to another one, and rows that are led by them."""

from bothandall.errors import BadMap
from bothandall.houses import both_and_all
from bothandall.kinds import are_integers_below, has_form
from bothandall.making import require_two
from bothandall.rows import require_row


def require_map(house, other, lots):
    """Raise the errors of two houses and of a map from the first one to the second one, in this order."""
    require_two(house, other)
    if not are_integers_below(lots, len(other)) or len(lots) != len(house):
        raise BadMap(lots)


def words_and_tables(house, other):
    """The words both and all, each with the tables of the two houses for it."""
    return list(zip(("both", "all"), both_and_all(house), both_and_all(other)))


def is_kept_for(inner, outer, lots, x, y):
    """Whether what a table tells for two lots is led to what the other one tells for those they are led to."""
    return lots[inner[x][y]] == outer[lots[x]][lots[y]]


def fault_of_map(house, other, lots):
    """Any certificate that a map is not good, None if it is."""
    for word, inner, outer in words_and_tables(house, other):
        for y in range(len(house)):
            for x in range(y):
                if not is_kept_for(inner, outer, lots, x, y):
                    return (word, x, y)
    return None


def judge_map(house, other, lots):
    """A certificate that a map is good, or two lots whose both or all it does not keep."""
    require_map(house, other, lots)
    fault = fault_of_map(house, other, lots)
    if fault is None:
        return ("good",)
    return fault


def map_holds(house, other, lots, thing):
    """Whether any value tells rightly whether a map is good."""
    require_map(house, other, lots)
    for word, inner, outer in words_and_tables(house, other):
        if has_form(thing, word, 2):
            _, x, y = thing
            return are_integers_below((x, y), len(house)) and not is_kept_for(inner, outer, lots, x, y)
    return has_form(thing, "good", 0) and fault_of_map(house, other, lots) is None


def led_row(house, other, lots, row):
    """The row to which a good map leads a row, lot by lot."""
    require_map(house, other, lots)
    if fault_of_map(house, other, lots) is not None:
        raise BadMap(lots)
    require_row(house, row)
    return tuple(lots[x] for x in row)
