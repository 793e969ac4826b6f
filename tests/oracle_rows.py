"""What the document says of parts 3 to 6, word by word and without haste."""

from functools import lru_cache
from itertools import combinations, product

from tests import oracle
from tests.oracle import is_integer


def has_form(value, word, parts):
    return type(value) is tuple and len(value) == parts + 1 and type(value[0]) is str and value[0] == word


def are_lots(house, value):
    return type(value) is tuple and all(is_integer(x) and 0 <= x < len(house) for x in value)


@lru_cache(maxsize=None)
def boths(house):
    lots = range(len(house))
    return {(x, y): oracle.both_of(house, x, y)[0] for x in lots for y in lots}


@lru_cache(maxsize=None)
def alls(house):
    lots = range(len(house))
    return {(x, y): oracle.all_of(house, x, y)[0] for x in lots for y in lots}


# Part 3


@lru_cache(maxsize=None)
def is_straight(house):
    both, every = boths(house), alls(house)
    lots = range(len(house))
    return all(
        both[x, every[y, z]] == every[both[x, y], both[x, z]] for x in lots for y in lots for z in lots
    )


def are_five(house, word, lots):
    if not are_lots(house, lots) or len(lots) != 5 or len(set(lots)) != 5 or type(word) is not str:
        return False
    low, a, b, c, high = lots

    def fit(x, y):
        return boths(house)[x, y] == low and alls(house)[x, y] == high

    if word == "flat":
        return fit(a, b) and fit(a, c) and fit(b, c)
    return word == "leaning" and house[a][b] == 1 and fit(a, c) and fit(b, c)


def straight_certificate(house, thing):
    if has_form(thing, "straight", 0):
        return is_straight(house)
    return has_form(thing, "five", 6) and are_five(house, thing[1], thing[2:])


def pieces_within(house, x):
    return tuple(p for p in oracle.pieces(house) if house[p][x])


def all_of_some(house, lots):
    around = [z for z in range(len(house)) if all(house[x][z] for x in lots)]
    return [z for z in around if all(house[z][w] for w in around)][0]


def rules_for(house):
    """The pair of 3.2, for any straight house; there may be too many rules."""
    names = oracle.pieces(house)
    rules = []
    for p, q in product(range(len(names)), repeat=2):
        if p != q and house[names[p]][names[q]]:
            rules.append(((q,), p))
    return len(names), tuple(sorted(rules))


WAYS = {
    "never rises": lambda before, after: after <= before,
    "never falls": lambda before, after: after >= before,
    "stays": lambda before, after: after == before,
}


@lru_cache(maxsize=None)
def sums(house):
    """For each two lots the sums of depths before and after."""
    deep = oracle.depths(house)
    both, every = boths(house), alls(house)
    return {pair: (deep[pair[0]] + deep[pair[1]], deep[both[pair]] + deep[every[pair]]) for pair in both}


def sums_certificate(house, way, thing):
    if has_form(thing, "so", 0):
        return all(WAYS[way](*both) for both in sums(house).values())
    if not has_form(thing, "pair", 2) or not are_lots(house, thing[1:]):
        return False
    return not WAYS[way](*sums(house)[thing[1:]])


# Part 4


def is_row(house, value):
    return are_lots(house, value) and 1 <= len(value) <= 6


def is_meeting(hands, value):
    if type(value) is not tuple or len(value) != 2:
        return False
    return all(is_integer(hand) and 0 <= hand < hands for hand in value) and value[0] != value[1]


def is_plan(hands, value):
    return type(value) is tuple and len(value) <= 20 and all(is_meeting(hands, meeting) for meeting in value)


def met(house, row, meeting):
    i, j = meeting
    lots = dict(enumerate(row))
    lots[i], lots[j] = boths(house)[row[i], row[j]], alls(house)[row[i], row[j]]
    return tuple(lots[hand] for hand in range(len(row)))


def behind(house, row, plan):
    for meeting in plan:
        row = met(house, row, meeting)
    return row


def strange_pairs(house, row):
    return tuple(
        (i, j) for i, j in combinations(range(len(row)), 2)
        if not house[row[i]][row[j]] and not house[row[j]][row[i]]
    )


def ledger(house, row, plan):
    return tuple(len(strange_pairs(house, behind(house, row, plan[:many]))) for many in range(len(plan) + 1))


def is_line(house, value):
    return is_row(house, value) and all(house[x][y] for x, y in zip(value, value[1:]))


def line_of(house, row):
    """The line of a row at rest: its lots in the only order that is a line (but for equal ones)."""
    if strange_pairs(house, row):
        return None
    left, line = list(row), []
    while left:
        first = [x for x in left if all(house[x][y] for y in left)][0]
        left.remove(first)
        line.append(first)
    return tuple(line)


def is_of_strange_pairs(house, row, plan):
    for i, j in plan:
        if (min(i, j), max(i, j)) not in strange_pairs(house, row):
            return False
        row = met(house, row, (i, j))
    return True


def is_resting_plan(house, row, plan):
    if not is_plan(len(row), plan) or not is_of_strange_pairs(house, row, plan):
        return False
    return strange_pairs(house, behind(house, row, plan)) == ()


# Part 5


@lru_cache(maxsize=None)
def ends(house, row):
    """The ends of a row, by all plans of meetings of strange pairs, hands told apart."""
    found, seen, open_rows = set(), {row}, [row]
    while open_rows:
        one = open_rows.pop()
        strange = strange_pairs(house, one)
        if not strange:
            found.add(line_of(house, one))
        for i, j in strange:
            for meeting in ((i, j), (j, i)):
                after = met(house, one, meeting)
                if after not in seen:
                    seen.add(after)
                    open_rows.append(after)
    return tuple(sorted(found))


def after_strange(house, row):
    """The sorted rows to which a meeting of a strange pair leads a sorted row."""
    found = set()
    for i, j in strange_pairs(house, row):
        others = [x for hand, x in enumerate(row) if hand not in (i, j)]
        found.add(tuple(sorted(others + [boths(house)[row[i], row[j]], alls(house)[row[i], row[j]]])))
    return found


def sorted_rows(house, row):
    """All sorted rows that come of a row."""
    found, new = set(), {tuple(sorted(row))}
    while new:
        found |= new
        new = set().union(*(after_strange(house, one) for one in new)) - found
    return found


def end_certificate(house, row, line, thing):
    if has_form(thing, "plan", 1):
        return is_resting_plan(house, row, thing[1]) and line_of(house, behind(house, row, thing[1])) == line
    if not has_form(thing, "closed", 1) or type(thing[1]) is not tuple:
        return False
    rows = thing[1]
    if not all(is_row(house, one) and len(one) == len(row) and list(one) == sorted(one) for one in rows):
        return False
    known = set(rows)
    if list(rows) != sorted(known) or tuple(sorted(row)) not in known or tuple(sorted(line)) in known:
        return False
    return all(after_strange(house, one) <= known for one in rows)


def are_two_plans(house, row, one, other):
    if not is_resting_plan(house, row, one) or not is_resting_plan(house, row, other):
        return False
    return line_of(house, behind(house, row, one)) != line_of(house, behind(house, row, other))


def one_end_certificate(house, row, thing):
    if has_form(thing, "one", 1):
        return is_line(house, thing[1]) and ends(house, row) == (thing[1],)
    return has_form(thing, "two", 2) and are_two_plans(house, row, thing[1], thing[2])


def ends_certificate(house, thing):
    if has_form(thing, "straight", 0):
        return is_straight(house)
    if not has_form(thing, "row", 3) or not is_row(house, thing[1]) or len(thing[1]) != 3:
        return False
    return are_two_plans(house, *thing[1:])


def together(table, lots):
    found = lots[0]
    for x in lots[1:]:
        found = table[found, x]
    return found


def floors(house, row):
    found = []
    for k in range(len(row)):
        lots = [together(boths(house), some) for some in combinations(row, len(row) - k)]
        found.append(together(alls(house), lots))
    return tuple(found)


def ceilings(house, row):
    found = []
    for k in range(len(row)):
        lots = [together(alls(house), some) for some in combinations(row, k + 1)]
        found.append(together(boths(house), lots))
    return tuple(found)


# Part 6


@lru_cache(maxsize=None)
def pieces(house):
    return oracle.pieces(house)


def counts(house, row):
    return tuple(len([x for x in row if house[p][x]]) for p in pieces(house))


def same_end_certificate(house, one, other, thing):
    if has_form(thing, "same", 0):
        return counts(house, one) == counts(house, other)
    if not has_form(thing, "piece", 1) or not is_integer(thing[1]) or thing[1] not in pieces(house):
        return False
    return len([x for x in one if house[thing[1]][x]]) != len([x for x in other if house[thing[1]][x]])


def some_end(house, row):
    """An end of a row: in a straight house the only one."""
    while strange_pairs(house, row):
        row = met(house, row, strange_pairs(house, row)[-1])
    return line_of(house, row)


def rows_before(house, line):
    lots = range(len(house))
    return tuple(row for row in product(lots, repeat=len(line)) if some_end(house, row) == line)


def all_after(house, row):
    return {met(house, row, meeting) for meeting in product(range(len(row)), repeat=2) if meeting[0] != meeting[1]}


def fewest_meetings(house, one, other):
    """How many meetings lead from one row to the other one at least; None if none do."""
    many, seen, new = 0, {one}, {one}
    while new:
        if other in new:
            return many
        new = set().union(*(all_after(house, row) for row in new)) - seen
        seen |= new
        many += 1
    return None


def led_certificate(house, one, other, thing):
    if has_form(thing, "plan", 1):
        if not is_plan(len(one), thing[1]) or behind(house, one, thing[1]) != other:
            return False
        return len(thing[1]) == fewest_meetings(house, one, other)
    if not has_form(thing, "closed", 1) or type(thing[1]) is not tuple:
        return False
    rows = thing[1]
    if not all(is_row(house, row) and len(row) == len(one) for row in rows):
        return False
    known = set(rows)
    if list(rows) != sorted(known) or one not in known or other in known:
        return False
    return all(all_after(house, row) <= known for row in rows)
