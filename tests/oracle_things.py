"""What the document says of parts 10 to 12, word by word and without haste."""

from functools import lru_cache
from itertools import combinations, permutations, product

from tests import oracle
from tests.oracle import is_integer
from tests.oracle_plans import is_hand, is_order, leads
from tests.oracle_rows import are_lots, has_form, is_meeting, is_plan, is_straight, met, strange_pairs

# Part 10


def is_ties(hands, value):
    if type(value) is not tuple or not all(is_meeting(hands, tie) for tie in value):
        return False
    return list(value) == sorted(set(value))


def is_ring(hands, ties, value):
    if type(value) is not tuple or not all(is_hand(hands, hand) for hand in value):
        return False
    if len(value) < 2 or len(set(value)) != len(value):
        return False
    return all(pair in ties for pair in zip(value, value[1:] + value[:1]))


def has_ring(hands, ties):
    return any((hand, hand) in leads(hands, ties) for hand in range(hands))


def round_certificate(hands, ties, thing):
    if has_form(thing, "order", 1):
        return is_order(hands, thing[1]) and all(thing[1].index(i) < thing[1].index(j) for i, j in ties)
    return has_form(thing, "ring", 1) and is_ring(hands, ties, thing[1])


def way_certificate(hands, ties, thing):
    if has_form(thing, "way", 1):
        return is_order(hands, thing[1]) and all(pair in ties for pair in zip(thing[1], thing[1][1:]))
    if not has_form(thing, "two", 2):
        return False
    i, j = thing[1:]
    if not is_hand(hands, i) or not is_hand(hands, j) or i >= j:
        return False
    return (i, j) not in leads(hands, ties) and (j, i) not in leads(hands, ties)


def has_way(hands, ties):
    return any(all(pair in ties for pair in zip(order, order[1:])) for order in permutations(range(hands)))


def changing(house, row, ties):
    return [tie for tie in ties if met(house, row, tie) != row]


def is_still(house, row, ties):
    return changing(house, row, ties) == []


def is_tied_plan(house, row, ties, value):
    if not is_plan(len(row), value):
        return False
    for tie in value:
        if tie not in changing(house, row, ties):
            return False
        row = met(house, row, tie)
    return True


def is_ended(house, row, ties, plan):
    if not is_tied_plan(house, row, ties, plan):
        return False
    for tie in plan:
        row = met(house, row, tie)
    return is_still(house, row, ties)


def longest_of(house, row, ties):
    """For the row, and for each one that comes of it, the number of meetings of its longest tied plan."""
    found = {}

    def look(one):
        if one not in found:
            after = [met(house, one, tie) for tie in changing(house, one, ties)]
            found[one] = max([1 + look(other) for other in after], default=0)
        return found[one]

    look(row)
    return found


def still_ends(house, row, ties):
    return tuple(sorted(one for one, many in longest_of(house, row, ties).items() if many == 0))


def can_be_changed_for_ever(house, row, ties):
    after, new = {}, [row]
    while new:
        one = new.pop()
        if one not in after:
            after[one] = {met(house, one, tie) for tie in changing(house, one, ties)}
            new += after[one]
    # Rows from which only rows that are left out come are left out: they come to rest.
    left = set(after)
    while True:
        ended = {one for one in left if not after[one] & left}
        if not ended:
            return row in left
        left -= ended


# Part 11

KINDS = ("numbers", "partings", "spaces", "stretches")
MOST = {"numbers": 10 ** 12, "partings": 6, "spaces": 4, "stretches": 20}


def is_size(kind, value):
    return is_integer(value) and 1 <= value <= MOST[kind]


def is_thing(kind, size, value):
    if kind == "numbers":
        return is_integer(value) and value >= 1 and size % value == 0
    if type(value) is not tuple or not all(is_integer(part) and part >= 0 for part in value):
        return False
    if kind == "partings":
        if len(value) != size or value[0] != 0:
            return False
        return all(value[at] <= max(value[:at]) + 1 for at in range(1, size))
    if kind == "spaces":
        if list(value) != sorted(set(value)) or 0 not in value or max(value) >= 2 ** size:
            return False
        return all(one ^ other in value for one in value for other in value)
    return value == () or (len(value) == 2 and value[0] <= value[1] < size)


@lru_cache(maxsize=None)
def things(kind, size):
    """All things, ascending, from all that could be things."""
    if kind == "numbers":
        some = range(1, size + 1)
    elif kind == "partings":
        some = product(range(size), repeat=size)
    elif kind == "spaces":
        rest = range(1, 2 ** size)
        some = [(0, *more) for many in range(len(rest) + 1) for more in combinations(rest, many)]
    else:
        some = [()] + list(product(range(size), repeat=2))
    return tuple(sorted(thing for thing in some if is_thing(kind, size, thing)))


def members(kind, thing):
    """What a thing within another one has to have in it."""
    if kind == "numbers":
        return {part for part in range(1, thing + 1) if thing % part == 0}
    if kind == "partings":
        places = range(len(thing))
        return {(one, other) for one in places for other in places if thing[one] == thing[other]}
    if kind == "spaces":
        return set(thing)
    return set(range(thing[0], thing[1] + 1)) if thing else set()


@lru_cache(maxsize=None)
def known_members(kind, thing):
    return frozenset(members(kind, thing))


def is_within(kind, one, other):
    if kind == "numbers":
        return other % one == 0
    return known_members(kind, one) <= known_members(kind, other)


@lru_cache(maxsize=None)
def both(kind, size, one, other):
    """The one thing within both, within which all such things are."""
    shared = [thing for thing in things(kind, size) if is_within(kind, thing, one) and is_within(kind, thing, other)]
    found = [thing for thing in shared if all(is_within(kind, less, thing) for less in shared)]
    assert len(found) == 1
    return found[0]


@lru_cache(maxsize=None)
def every(kind, size, one, other):
    """The one thing around both that is within all such things."""
    shared = [thing for thing in things(kind, size) if is_within(kind, one, thing) and is_within(kind, other, thing)]
    found = [thing for thing in shared if all(is_within(kind, thing, more) for more in shared)]
    assert len(found) == 1
    return found[0]


def house(kind, size):
    return tuple(
        tuple(int(is_within(kind, one, other)) for other in things(kind, size)) for one in things(kind, size)
    )


def is_row_of_things(kind, size, value):
    return type(value) is tuple and 1 <= len(value) <= 6 and all(is_thing(kind, size, thing) for thing in value)


# Part 12


def is_straight_house_of(m, rules):
    """Whether the house of some rules, perhaps more than eight, is straight."""
    return lots_are_straight(oracle.closed_lots(m, rules))


@lru_cache(maxsize=None)
def lots_are_straight(lots):
    return is_straight(tuple(tuple(int(set(lot) <= set(other)) for other in lots) for lot in lots))


def are_parting_lots(m, rules, values):
    lots = oracle.closed_lots(m, rules)
    if not all(oracle.is_facts(m, lot) and lot in lots for lot in values):
        return False
    a, b, c = [set(lot) for lot in values]
    high = a & set(oracle.closure(m, rules, tuple(b | c)))
    return len(high) > len(oracle.closure(m, rules, tuple((a & b) | (a & c))))


def rules_certificate(m, rules, thing):
    if has_form(thing, "straight", 0):
        return is_straight_house_of(m, rules)
    return has_form(thing, "lots", 3) and are_parting_lots(m, rules, thing[1:])


def is_straight_without(m, rules, positions):
    return is_straight_house_of(m, tuple(rule for at, rule in enumerate(rules) if at not in positions))


@lru_cache(maxsize=None)
def fewest_left_out(m, rules):
    for many in range(len(rules) + 1):
        if any(is_straight_without(m, rules, some) for some in combinations(range(len(rules)), many)):
            return many


def is_cut(m, rules, value):
    if not are_lots(rules, value) or list(value) != sorted(set(value)):
        return False
    return is_straight_without(m, rules, value) and len(value) == fewest_left_out(m, rules)


def bonds(m):
    return sorted(((one,), other) for one in range(m) for other in range(m) if one != other)


@lru_cache(maxsize=None)
def fewest_put_in(m, rules):
    for many in range(m * m):
        if any(is_straight_house_of(m, rules + some) for some in combinations(bonds(m), many)):
            return many


def is_mend(m, rules, value):
    if type(value) is not tuple or not all(oracle.is_rule(m, bond) and len(bond[0]) == 1 for bond in value):
        return False
    if list(value) != sorted(set(value)):
        return False
    return is_straight_house_of(m, rules + value) and len(value) == fewest_put_in(m, rules)
