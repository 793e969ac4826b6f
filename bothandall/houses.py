"""Houses: orders in which each two lots have both and all."""

from bothandall.errors import BadHouse, BadLot, BadTable
from bothandall.kinds import are_integers_below, has_form, is_integer_from, is_square

MOST_LOTS = 24


def is_table(thing):
    """Whether any value is a table of noughts and ones."""
    return isinstance(thing, tuple) and 1 <= len(thing) <= MOST_LOTS and is_square(thing, len(thing))


def is_house(thing):
    """Whether any value is a house."""
    return is_table(thing) and fault_of(thing) is None


def require_table(table):
    """Raise BadTable unless any value is a table."""
    if not is_table(table):
        raise BadTable(table)


def require_house(house):
    """Raise BadHouse unless any value is a house."""
    if not is_house(house):
        raise BadHouse(house)


def require_lots(house, things):
    """Raise BadHouse, or BadLot with the first of some values that is no lot of the house."""
    require_house(house)
    for thing in things:
        if not is_integer_from(thing, 0, len(house) - 1):
            raise BadLot(thing)


def mask_of(bits):
    """The integer that has a bit for each 1 in a row of noughts and ones."""
    mask = 0
    for at, bit in enumerate(bits):
        mask |= bit << at
    return mask


def masks_around(table):
    """For each lot the mask of the lots that it is within."""
    return [mask_of(row) for row in table]


def masks_within(table):
    """For each lot the mask of the lots that are within it."""
    return [mask_of(column) for column in zip(*table)]


def shared_lots(masks):
    """For each two lots the one whose mask is what theirs share; such a lot has to be there."""
    lots = {mask: lot for lot, mask in enumerate(masks)}
    return [[lots[one & other] for other in masks] for one in masks]


def both_and_all(house):
    """The pair of what each two lots have both, and of what they have all."""
    return shared_lots(masks_within(house)), shared_lots(masks_around(house))


def fault_of(table):
    """Any certificate that a table is no house, None if it is one."""
    fault = order_fault(table)
    if fault is None:
        fault = pair_fault(table)
    return fault


def order_fault(table):
    """Any certificate that a table is no order, None if it is one."""
    around = masks_around(table)
    for x in range(len(table)):
        if table[x][x] == 0:
            return ("own", x)
        for y in range(len(table)):
            if x != y and table[x][y] == 1 and table[y][x] == 1:
                return ("round", x, y)
            if table[x][y] == 1 and around[y] & ~around[x] != 0:
                return ("jump", x, y, first_beyond(table, x, y))
    return None


def first_beyond(table, x, y):
    """The first lot that y is within and x is not; None if there is none."""
    for z in range(len(table)):
        if table[y][z] == 1 and table[x][z] == 0:
            return z
    return None


def pair_fault(order):
    """Any certificate that an order has not all both and all, None if it has."""
    for word, masks in (("both", masks_within(order)), ("all", masks_around(order))):
        for x in range(len(masks)):
            for y in range(x):
                # In an order a lot is the both of two just if its mask is what theirs share.
                if masks[x] & masks[y] not in masks:
                    return (word, y, x)
    return None


def judge_house(table):
    """A certificate that a table is a house, or that it is none."""
    require_table(table)
    fault = fault_of(table)
    if fault is None:
        return ("house",)
    return fault


def house_holds(table, thing):
    """Whether any value is a certificate for a table."""
    require_table(table)
    if has_form(thing, "house", 0):
        return is_house(table)
    return is_fault(table, thing)


def is_fault(table, thing):
    """Whether any value is a certificate that a table is no house."""
    if not isinstance(thing, tuple) or not are_integers_below(thing[1:], len(table)):
        return False
    if has_form(thing, "own", 1):
        return table[thing[1]][thing[1]] == 0
    if has_form(thing, "jump", 3):
        _, x, y, z = thing
        return table[x][y] == 1 and table[y][z] == 1 and table[x][z] == 0
    if len(thing) != 3 or thing[1] == thing[2]:
        return False
    word, x, y = thing
    if word == "round":
        return table[x][y] == 1 and table[y][x] == 1
    if word == "both":
        return is_bare(masks_within(table), x, y)
    return word == "all" and is_bare(masks_around(table), x, y)


def is_bare(masks, x, y):
    """Whether none of the lots that two masks share has all of these in its own mask."""
    shared = masks[x] & masks[y]
    # The table may be no order, so a mask may have more than the shared lots.
    return not any((shared >> z) & 1 == 1 and shared & ~masks[z] == 0 for z in range(len(masks)))


def both(house, x, y):
    """The greatest lot within two lots."""
    require_lots(house, (x, y))
    within = masks_within(house)
    return within.index(within[x] & within[y])


def all_of(house, x, y):
    """The least lot around two lots."""
    require_lots(house, (x, y))
    around = masks_around(house)
    return around.index(around[x] & around[y])


def is_within(house, x, y):
    """Whether a lot is within another one."""
    require_lots(house, (x, y))
    return house[x][y] == 1


def least(house):
    """The lot that is within all lots."""
    require_house(house)
    return house.index((1,) * len(house))


def greatest(house):
    """The lot that all lots are within."""
    require_house(house)
    return [sum(column) for column in zip(*house)].index(len(house))


def steps_up(house):
    """For each lot the ascending list of the lots next above it."""
    around, within = masks_around(house), masks_within(house)
    lots = range(len(house))
    # Of two unlike lots the one is next above the other if nothing but they is between them.
    return [[y for y in lots if x != y and around[x] & within[y] == (1 << x) | (1 << y)] for x in lots]


def steps_above(house, x):
    """The ascending tuple of the lots next above a lot."""
    require_lots(house, (x,))
    return tuple(steps_up(house)[x])


def pieces(house):
    """The ascending tuple of the lots that are not all of two other ones."""
    require_house(house)
    below = [0] * len(house)
    for above in steps_up(house):
        for y in above:
            below[y] += 1
    # With one lot next below it, all that is within a lot, but itself, is within that one.
    return tuple(x for x in range(len(house)) if below[x] == 1)


def depths(house):
    """The tuple of the depths of all lots."""
    require_house(house)
    above = steps_up(house)
    found = [0] * len(house)
    for x in lots_upwards(house):
        for y in above[x]:
            found[y] = max(found[y], found[x] + 1)
    return tuple(found)


def lots_upwards(house):
    """The lots, each one behind all that are within it."""
    many = [sum(row) for row in house]
    return sorted(range(len(house)), key=lambda x: -many[x])
