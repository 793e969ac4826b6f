"""How many hands hold a lot, now and at rest, and what is surely so at rest."""

from bothandall.ends import end_behind, ends_of, plan_to, rows_at_rest, sorted_rows
from bothandall.errors import BadLot, BadNumber
from bothandall.kinds import has_form, is_integer_from
from bothandall.rows import is_list_of_meetings, require_row


def require_lot(house, row, lot):
    """Raise the errors of a house, of a row and of a lot, in this order."""
    require_row(house, row)
    if not is_integer_from(lot, 0, len(house) - 1):
        raise BadLot(lot)


def require_many(row, k):
    """Raise BadNumber unless any value is from 1 to the number of hands of a row."""
    if not is_integer_from(k, 1, len(row)):
        raise BadNumber(k)


def require_saying(house, row, lot, k):
    """Raise the errors of a house, of a row and of a saying, in this order."""
    require_lot(house, row, lot)
    require_many(row, k)


def many_hold(house, row, lot):
    """How many hands hold a lot, without a look at whether the arguments are right."""
    return sum([house[lot][x] for x in row])


def holders_now(house, row, lot):
    """How many hands of a row hold a lot."""
    require_lot(house, row, lot)
    return many_hold(house, row, lot)


def holders(house, row, lot):
    """The least and the greatest number of hands that hold a lot at an end of a row."""
    require_lot(house, row, lot)
    many = [many_hold(house, line, lot) for line in ends_of(house, row)]
    return min(many), max(many)


def word_for(house, rows, lot, k):
    """The word for a saying: whether so many hands hold a lot in all, in none, or in some of some rows."""
    many = [many_hold(house, row, lot) for row in rows]
    if min(many) >= k:
        return "sure"
    return "open" if max(many) >= k else "never"


def judge_saying(house, row, lot, k):
    """A certificate that a saying is sure, or never so, or two plans behind which it is so and is not."""
    require_saying(house, row, lot, k)
    came = sorted_rows(house, row)
    at_rest = rows_at_rest(house, came)
    word = word_for(house, at_rest, lot, k)
    if word != "open":
        return (word,)
    enough = [end for end in at_rest if many_hold(house, end, lot) >= k]
    fewer = [end for end in at_rest if many_hold(house, end, lot) < k]
    return ("open", plan_to(house, row, came, enough[0]), plan_to(house, row, came, fewer[0]))


def saying_holds(house, row, lot, k, thing):
    """Whether any value tells rightly what becomes of a saying."""
    require_saying(house, row, lot, k)
    if has_form(thing, "open", 2):
        one, other = many_behind(house, row, lot, thing[1]), many_behind(house, row, lot, thing[2])
        return one is not None and other is not None and one >= k > other
    if not has_form(thing, "sure", 0) and not has_form(thing, "never", 0):
        return False
    return word_for(house, ends_of(house, row), lot, k) == thing[0]


def many_behind(house, row, lot, thing):
    """How many hands hold a lot at the end to which any value, as a plan, leads a row; None if it does not."""
    if not is_list_of_meetings(len(row), thing):
        return None
    line = end_behind(house, row, thing)
    return None if line is None else many_hold(house, line, lot)


def lots_with_word(house, row, k, word):
    """The ascending tuple of the lots the sayings about which have a word."""
    require_row(house, row)
    require_many(row, k)
    lines = ends_of(house, row)
    return tuple(lot for lot in range(len(house)) if word_for(house, lines, lot, k) == word)


def sure_lots(house, row, k):
    """The lots that at least so many hands hold at each end of a row."""
    return lots_with_word(house, row, k, "sure")


def open_lots(house, row, k):
    """The lots that at least so many hands hold at some ends of a row, but not at all of them."""
    return lots_with_word(house, row, k, "open")
