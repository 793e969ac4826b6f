"""What the document says of parts 13 to 15, word by word and without haste."""

from functools import lru_cache
from itertools import product

from tests import oracle
from tests.oracle import is_integer
from tests.oracle_rows import (
    alls, are_lots, behind, boths, ends, has_form, is_meeting, is_resting_plan,
)
from tests.oracle_things import is_thing

# Part 13


def is_map(house, other, value):
    return are_lots(other, value) and len(value) == len(house)


def keeps_both(house, other, lots, x, y):
    return lots[boths(house)[x, y]] == boths(other)[lots[x], lots[y]]


def keeps_all(house, other, lots, x, y):
    return lots[alls(house)[x, y]] == alls(other)[lots[x], lots[y]]


def is_good(house, other, lots):
    pairs = list(product(range(len(house)), repeat=2))
    return all(keeps_both(house, other, lots, *pair) and keeps_all(house, other, lots, *pair) for pair in pairs)


def map_certificate(house, other, lots, thing):
    if has_form(thing, "good", 0):
        return is_good(house, other, lots)
    if has_form(thing, "both", 2) and are_lots(house, thing[1:]):
        return not keeps_both(house, other, lots, *thing[1:])
    return has_form(thing, "all", 2) and are_lots(house, thing[1:]) and not keeps_all(house, other, lots, *thing[1:])


def is_parting(house, value):
    return is_thing("partings", len(house), value)


def fault_at(house, parting, word, x, y, z):
    table = boths(house) if word == "both" else alls(house)
    return parting[x] == parting[y] and parting[table[x, z]] != parting[table[y, z]]


@lru_cache(maxsize=None)
def is_kept(house, parting):
    some = product(("both", "all"), *[range(len(house))] * 3)
    return not any(fault_at(house, parting, *one) for one in some)


def parting_certificate(house, parting, thing):
    if has_form(thing, "kept", 0):
        return is_kept(house, parting)
    for word in ("both", "all"):
        if has_form(thing, word, 3) and are_lots(house, thing[1:]):
            return fault_at(house, parting, *thing)
    return False


def house_of_blocks(house, parting):
    blocks = range(max(parting) + 1)
    lots = {block: [x for x in range(len(house)) if parting[x] == block] for block in blocks}
    return tuple(
        tuple(int(any(house[x][y] for x in lots[one] for y in lots[other])) for other in blocks) for one in blocks
    )


@lru_cache(maxsize=None)
def least_kept(house, pairs):
    """The least parting, by all pairs of lots that have to be together."""
    lots = range(len(house))
    together = {(x, x) for x in lots} | set(pairs)
    while True:
        more = {(y, x) for x, y in together}
        more |= {(x, w) for x, y in together for z, w in together if y == z}
        for table in (boths(house), alls(house)):
            more |= {(table[x, z], table[y, z]) for x, y in together for z in lots}
        if more <= together:
            break
        together |= more
    names = []
    for x in lots:
        before = [names[y] for y in range(x) if (x, y) in together]
        names.append(before[0] if before else max(names, default=-1) + 1)
    return tuple(names)


@lru_cache(maxsize=None)
def is_simple(house):
    """A kept parting with two unlike lots together is around the least one for these."""
    pairs = [(x, y) for x in range(len(house)) for y in range(x)]
    return all(set(least_kept(house, (pair,))) == {0} for pair in pairs)


def simple_certificate(house, thing):
    if has_form(thing, "simple", 0):
        return is_simple(house)
    if not has_form(thing, "parting", 1) or not is_parting(house, thing[1]):
        return False
    return is_kept(house, thing[1]) and len(set(thing[1])) not in (1, len(house))


# Part 14


def holders_now(house, row, lot):
    return len([x for x in row if house[lot][x]])


def holders(house, row, lot):
    many = sorted(holders_now(house, line, lot) for line in ends(house, row))
    return many[0], many[-1]


def word_of(house, row, lot, k):
    low, high = holders(house, row, lot)
    return "sure" if low >= k else "never" if high < k else "open"


def saying_certificate(house, row, lot, k, thing):
    if has_form(thing, "sure", 0) or has_form(thing, "never", 0):
        return word_of(house, row, lot, k) == thing[0]
    if not has_form(thing, "open", 2):
        return False
    one, other = thing[1:]
    if not is_resting_plan(house, row, one) or not is_resting_plan(house, row, other):
        return False
    return holders_now(house, behind(house, row, one), lot) >= k > holders_now(house, behind(house, row, other), lot)


# Part 15


def is_row_of_lots(m, rules, value):
    if type(value) is not tuple or not 1 <= len(value) <= 6:
        return False
    return all(oracle.is_facts(m, lot) and oracle.is_closed(rules, lot) for lot in value)


def is_promise(m, hands, value):
    if type(value) is not tuple or len(value) != 3 or type(value[0]) is not str:
        return False
    word, i, other = value
    if not is_integer(i) or not is_integer(other) or not 0 <= i < hands:
        return False
    if word == "within":
        return is_meeting(hands, (i, other))
    return word in ("holds", "lacks") and 0 <= other < m


def keeps(row, promise):
    word, i, other = promise
    if word == "holds":
        return other in row[i]
    if word == "lacks":
        return other not in row[i]
    return set(row[i]) <= set(row[other])


def all_promises(m, hands):
    found = [(word, i, fact) for word in ("holds", "lacks") for i in range(hands) for fact in range(m)]
    return found + [("within", i, j) for i in range(hands) for j in range(hands) if i != j]


def all_rules(m):
    return [(lot, fact) for lot in oracle.lots_of_facts(m) for fact in range(m) if fact not in lot]


def row_behind(standing, deed, value):
    """The standing that a deed gives, whether or not promises are kept."""
    m, rules, row, promises = standing
    lots = [set(lot) for lot in row]
    if deed == "meet":
        i, j = value
        lots[i], lots[j] = lots[i] & lots[j], lots[i] | lots[j]
    if deed == "learn":
        lots[value[0]].add(value[1])
    if deed == "rule":
        rules = rules + (value,)
    if deed == "drop":
        rules = tuple(rule for at, rule in enumerate(rules) if at != value)
    if deed == "promise":
        promises = promises + (value,)
    if deed == "release":
        promises = tuple(promise for promise in promises if promise != value)
    return m, rules, tuple(oracle.closure(m, rules, tuple(lot)) for lot in lots), promises


def line(*words):
    return " ".join(str(word) for word in words)


def text_of(standing):
    m, rules, row, promises = standing
    lines = [line("facts", m)] + [line("rule", *ifs, ">", fact) for ifs, fact in rules]
    return "\n".join(lines + [line("hand", *lot) for lot in row] + [line(*promise) for promise in promises])


@lru_cache(maxsize=None)
def lines_that_go_on(standing):
    """All lines with which a text can go on, each with the standing that it then tells."""
    m, rules, row, promises = standing
    if m == 0:
        return {line("facts", many): (many, (), (), ()) for many in range(1, 7)}
    found = {}
    if not row and len(rules) < 8:
        for ifs, fact in all_rules(m):
            found[line("rule", *ifs, ">", fact)] = (m, rules + ((ifs, fact),), row, promises)
    if not promises and len(row) < 6:
        for lot in oracle.closed_lots(m, rules):
            found[line("hand", *lot)] = (m, rules, row + (lot,), promises)
    for promise in all_promises(m, len(row)):
        if keeps(row, promise) and promise not in promises:
            found[line(*promise)] = (m, rules, row, promises + (promise,))
    return found


def read(text):
    """The standing that a text tells, or the number of the line at which it is no text of a desk."""
    if type(text) is not str:
        return 0
    standing = (0, (), (), ())
    lines = text.split("\n")
    for at, one in enumerate(lines):
        more = lines_that_go_on(standing)
        if one not in more:
            return at + 1
        standing = more[one]
    return standing if standing[2] else len(lines) + 1
