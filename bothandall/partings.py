"""Kept partings of a house, the houses of their blocks, and simple houses."""

from bothandall.blocks import is_parting_of, numbered, put_together
from bothandall.errors import BadHouse, BadLot, BadThing
from bothandall.houses import MOST_LOTS, both_and_all, require_house, steps_up
from bothandall.kinds import are_integers_below, has_form


def is_parting(house, thing):
    """Whether any value is a parting of the lots of a house."""
    require_house(house)
    return is_parting_of(len(house), thing)


def require_parting(house, parting):
    """Raise the errors of a house and of a parting, in this order."""
    if not is_parting(house, parting):
        raise BadThing(parting)


def words_and_tables(house):
    """The words both and all, each with the table of a house for it."""
    return list(zip(("both", "all"), both_and_all(house)))


def fault_of_parting(house, parting):
    """Any certificate that a parting is not kept, None if it is."""
    for word, table in words_and_tables(house):
        for y, block in enumerate(parting):
            # What goes along with the first lot of its block goes along with all of them.
            x = parting.index(block)
            for z in range(len(house)):
                if parting[table[x][z]] != parting[table[y][z]]:
                    return (word, x, y, z)
    return None


def judge_parting(house, parting):
    """A certificate that a parting is kept, or three lots for which it is not."""
    require_parting(house, parting)
    fault = fault_of_parting(house, parting)
    if fault is None:
        return ("kept",)
    return fault


def parting_holds(house, parting, thing):
    """Whether any value tells rightly whether a parting is kept."""
    require_parting(house, parting)
    for word, table in words_and_tables(house):
        if has_form(thing, word, 3):
            _, x, y, z = thing
            return are_integers_below((x, y, z), len(house)) and is_fault_by(table, parting, x, y, z)
    return has_form(thing, "kept", 0) and fault_of_parting(house, parting) is None


def is_fault_by(table, parting, x, y, z):
    """Whether two lots are together, and what a table tells for each of them and a third one is not."""
    return parting[x] == parting[y] and parting[table[x][z]] != parting[table[y][z]]


def house_of_blocks(house, parting):
    """The house of the blocks of a kept parting."""
    require_parting(house, parting)
    if fault_of_parting(house, parting) is not None:
        raise BadThing(parting)
    many = max(parting) + 1
    table = [[0] * many for _ in range(many)]
    for x, row in enumerate(house):
        for y, bit in enumerate(row):
            if bit == 1:
                table[parting[x]][parting[y]] = 1
    return tuple([tuple(row) for row in table])


def are_pairs_of_lots(house, thing):
    """Whether any value is a tuple of at most 24 pairs of lots."""
    if not isinstance(thing, tuple) or len(thing) > MOST_LOTS:
        return False
    return all(are_integers_below(pair, len(house)) and len(pair) == 2 for pair in thing)


def least_kept(house, pairs):
    """The least kept parting in which the lots of each of some pairs are together."""
    require_house(house)
    if not are_pairs_of_lots(house, pairs):
        raise BadLot(pairs)
    return kept_with(house, pairs)


def kept_with(house, pairs):
    """The least kept parting as above, without a look at whether the arguments are right."""
    tables = both_and_all(house)
    lots = range(len(house))
    marks = list(lots)
    waiting = list(pairs)
    while len(waiting) > 0:
        x, y = waiting.pop()
        if marks[x] != marks[y]:
            marks = put_together(marks, x, y)
            waiting.extend([(table[x][z], table[y][z]) for table in tables for z in lots])
    return numbered(marks)


def middle_parting(house):
    """A kept parting into several blocks, not all of one lot; None if there is none."""
    for x, above in enumerate(steps_up(house)):
        for y in above:
            # Lots that are together have a pair between them that is: one next above the other.
            parting = kept_with(house, ((x, y),))
            if max(parting) > 0:
                return parting
    return None


def require_two_lots(house):
    """Raise BadHouse unless any value is a house of two lots or more."""
    require_house(house)
    if len(house) < 2:
        raise BadHouse(house)


def judge_simple(house):
    """A certificate that a house is simple, or a kept parting that shows that it is not."""
    require_two_lots(house)
    parting = middle_parting(house)
    if parting is None:
        return ("simple",)
    return ("parting", parting)


def simple_holds(house, thing):
    """Whether any value tells rightly whether a house is simple."""
    require_two_lots(house)
    if has_form(thing, "parting", 1):
        return is_middle_parting(house, thing[1])
    return has_form(thing, "simple", 0) and middle_parting(house) is None


def is_middle_parting(house, thing):
    """Whether any value is a kept parting into several blocks, not all of one lot."""
    if not is_parting_of(len(house), thing) or not 0 < max(thing) < len(house) - 1:
        return False
    return fault_of_parting(house, thing) is None
