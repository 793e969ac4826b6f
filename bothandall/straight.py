"""Straight houses, the pieces that tell their lots apart, and sums of depths."""

from bothandall.errors import BadHouse, BadLot, BadWay, TooMany
from bothandall.houses import MOST_LOTS, both_and_all, depths, masks_around, pieces, require_house, require_lots
from bothandall.kinds import are_integers_below, has_form
from bothandall.rules import MOST_FACTS, MOST_RULES

WAYS = ("never rises", "never falls", "stays")


def leaning_lots(house, tables):
    """Five lots that are leaning, None if there are none."""
    boths, alls = tables
    lots = range(len(house))
    for a in lots:
        for b in lots:
            if a == b or house[a][b] == 0:
                continue
            for c in lots:
                # A lot c that is within a or b, or around one of them, would tell them apart.
                if boths[a][c] == boths[b][c] and alls[a][c] == alls[b][c]:
                    return ("leaning", boths[a][c], a, b, c, alls[a][c])
    return None


def flat_lots(tables):
    """Five lots that are flat, None if there are none."""
    boths, alls = tables
    for c in range(len(boths)):
        for b in range(c):
            low, high = boths[b][c], alls[b][c]
            for a in range(b):
                if boths[a][b] == boths[a][c] == low and alls[a][b] == alls[a][c] == high:
                    return ("flat", low, a, b, c, high)
    return None


def five_lots(house):
    """Five lots of a house that is not straight, None for a straight one."""
    tables = both_and_all(house)
    found = leaning_lots(house, tables)
    if found is None:
        found = flat_lots(tables)
    return found


def are_five_lots(house, word, lots):
    """Whether any word and tuple of five parts are five lots."""
    if not are_integers_below(lots, len(house)) or len(set(lots)) < 5:
        return False
    low, a, b, c, high = lots
    pairs = [(a, c), (b, c)]
    if word == "flat":
        pairs.append((a, b))
    elif word != "leaning" or house[a][b] == 0:
        return False
    boths, alls = both_and_all(house)
    return all(boths[x][y] == low and alls[x][y] == high for x, y in pairs)


def judge_straight(house):
    """A certificate that a house is straight, or five lots of it."""
    require_house(house)
    five = five_lots(house)
    if five is None:
        return ("straight",)
    return ("five", *five)


def straight_holds(house, thing):
    """Whether any value tells rightly whether a house is straight."""
    require_house(house)
    if has_form(thing, "five", 6):
        return are_five_lots(house, thing[1], thing[2:])
    return has_form(thing, "straight", 0) and five_lots(house) is None


def is_straight(house):
    """Whether a house is straight."""
    require_house(house)
    return five_lots(house) is None


def require_straight(house):
    """Raise BadHouse unless any value is a straight house."""
    if not is_straight(house):
        raise BadHouse(house)


def pieces_within(house, x):
    """The ascending tuple of the pieces within a lot."""
    require_lots(house, (x,))
    return tuple(p for p in pieces(house) if house[p][x] == 1)


def lot_with(house, lots):
    """All of some lots, the least one for none."""
    require_house(house)
    if not are_integers_below(lots, len(house)) or len(lots) > MOST_LOTS:
        raise BadLot(lots)
    around = masks_around(house)
    shared = (1 << len(house)) - 1
    for lot in lots:
        shared &= around[lot]
    return around.index(shared)


def rules_for(house):
    """The number of the pieces of a straight house, and the rules that tell which are within which."""
    require_straight(house)
    facts = pieces(house)
    m = len(facts)
    if not 1 <= m <= MOST_FACTS:
        raise BadHouse(house)
    pairs = [(q, p) for q in range(m) for p in range(m) if p != q and house[facts[p]][facts[q]] == 1]
    if len(pairs) > MOST_RULES:
        raise TooMany(MOST_RULES)
    return m, tuple(((q,), p) for q, p in pairs)


def require_way(house, way):
    """Raise the errors of a house and of a way, in this order."""
    require_house(house)
    if way not in WAYS:
        raise BadWay(way)


def changes_of_sums(house):
    """For each two lots by how much the sum of their depths rises when they become both and all."""
    boths, alls = both_and_all(house)
    deep = depths(house)
    lots = range(len(house))
    return [[deep[boths[x][y]] + deep[alls[x][y]] - deep[x] - deep[y] for y in lots] for x in lots]


def is_against(way, change):
    """Whether a sum that changes by so much does not go the way."""
    if way == "never rises":
        return change > 0
    if way == "never falls":
        return change < 0
    return change != 0


def pair_against(house, way):
    """Two lots whose sum does not go the way, None if there are none."""
    changes = changes_of_sums(house)
    for y in range(len(house)):
        for x in range(y):
            if is_against(way, changes[x][y]):
                return (x, y)
    return None


def judge_sums(house, way):
    """A certificate that all sums of two depths go a way, or two lots for which it is otherwise."""
    require_way(house, way)
    pair = pair_against(house, way)
    if pair is None:
        return ("so",)
    return ("pair", *pair)


def sums_hold(house, way, thing):
    """Whether any value tells rightly whether the sums go a way."""
    require_way(house, way)
    if has_form(thing, "pair", 2):
        if not are_integers_below(thing[1:], len(house)):
            return False
        _, x, y = thing
        return is_against(way, changes_of_sums(house)[x][y])
    return has_form(thing, "so", 0) and pair_against(house, way) is None
