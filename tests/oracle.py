"""What the document says, word by word and without haste, to compare the package with."""

from itertools import combinations


def is_integer(value):
    return type(value) is int


# Part 1


def is_facts(m, value):
    if type(value) is not tuple or not all(is_integer(fact) and 0 <= fact < m for fact in value):
        return False
    return list(value) == sorted(set(value))


def is_rule(m, value):
    if type(value) is not tuple or len(value) != 2 or not is_facts(m, value[0]):
        return False
    return is_integer(value[1]) and 0 <= value[1] < m and value[1] not in value[0]


def is_rules(m, value):
    return type(value) is tuple and len(value) <= 8 and all(is_rule(m, rule) for rule in value)


def lots_of_facts(m):
    return [lot for many in range(m + 1) for lot in combinations(range(m), many)]


def is_closed(rules, lot):
    return all(fact in lot for ifs, fact in rules if set(ifs) <= set(lot))


def closed_lots(m, rules):
    return tuple(sorted(lot for lot in lots_of_facts(m) if is_closed(rules, lot)))


def closure(m, rules, lot):
    around = [set(other) for other in closed_lots(m, rules) if set(lot) <= set(other)]
    return tuple(sorted(set.intersection(*around)))


def follows(m, rules, lot, fact, thing):
    """Whether it is a certificate of 1.2."""
    if type(thing) is not tuple or len(thing) != 2:
        return False
    word, told = thing
    if type(word) is not str or type(told) is not tuple:
        return False
    if word == "closed":
        return is_facts(m, told) and is_closed(rules, told) and set(lot) <= set(told) and fact not in told
    if word != "steps" or not all(is_integer(at) and 0 <= at < len(rules) for at in told):
        return False
    there = set(lot)
    for at in told:
        if not set(rules[at][0]) <= there:
            return False
        there.add(rules[at][1])
    return fact in there


def house_of(m, rules):
    lots = closed_lots(m, rules)
    return tuple(tuple(int(set(lot) <= set(other)) for other in lots) for lot in lots)


def needless(m, rules):
    whole = closed_lots(m, rules)
    return tuple(at for at in range(len(rules)) if closed_lots(m, rules[:at] + rules[at + 1:]) == whole)


def is_some_in_order(some, rules):
    at = 0
    for rule in some:
        while at < len(rules) and rules[at] != rule:
            at += 1
        if at == len(rules):
            return False
        at += 1
    return True


# Part 2


def is_table(value):
    if type(value) is not tuple or not 1 <= len(value) <= 24:
        return False
    return all(
        type(row) is tuple and len(row) == len(value) and all(is_integer(bit) and bit in (0, 1) for bit in row)
        for row in value
    )


def both_of(table, x, y):
    """All lots that are both of two lots."""
    shared = [z for z in range(len(table)) if table[z][x] and table[z][y]]
    return [z for z in shared if all(table[w][z] for w in shared)]


def all_of(table, x, y):
    """All lots that are all of two lots."""
    shared = [z for z in range(len(table)) if table[x][z] and table[y][z]]
    return [z for z in shared if all(table[z][w] for w in shared)]


def is_house(value):
    if not is_table(value):
        return False
    lots = range(len(value))
    if not all(value[x][x] for x in lots):
        return False
    if any(value[x][y] and value[y][x] for x in lots for y in lots if x != y):
        return False
    if any(value[x][y] and value[y][z] and not value[x][z] for x in lots for y in lots for z in lots):
        return False
    return all(both_of(value, x, y) and all_of(value, x, y) for x in lots for y in lots if x != y)


def house_certificate(table, thing):
    """Whether it is a certificate of 2.2."""
    if type(thing) is not tuple or not thing or type(thing[0]) is not str:
        return False
    word, lots = thing[0], thing[1:]
    if not all(is_integer(x) and 0 <= x < len(table) for x in lots):
        return False
    if len(lots) != {"house": 0, "own": 1, "round": 2, "jump": 3, "both": 2, "all": 2}.get(word):
        return False
    if word == "house":
        return is_house(table)
    if word == "own":
        return not table[lots[0]][lots[0]]
    if word == "jump":
        x, y, z = lots
        return bool(table[x][y] and table[y][z] and not table[x][z])
    x, y = lots
    if x == y:
        return False
    if word == "round":
        return bool(table[x][y] and table[y][x])
    return not (both_of(table, x, y) if word == "both" else all_of(table, x, y))


def least(house):
    return [x for x in range(len(house)) if all(house[x][y] for y in range(len(house)))][0]


def greatest(house):
    return [x for x in range(len(house)) if all(house[y][x] for y in range(len(house)))][0]


def steps_above(house, x):
    found = []
    for y in range(len(house)):
        if x != y and house[x][y]:
            third = [z for z in range(len(house)) if z not in (x, y) and house[x][z] and house[z][y]]
            if not third:
                found.append(y)
    return tuple(found)


def pieces(house):
    lots = range(len(house))
    alls = {}
    for x in lots:
        for y in lots:
            alls.setdefault(all_of(house, x, y)[0], []).append((x, y))
    return tuple(p for p in lots if p != least(house) and all(p in pair for pair in alls[p]))


def depths(house):
    above = [steps_above(house, x) for x in range(len(house))]
    found = [-1] * len(house)
    rows = [(least(house), 0)]
    while rows:
        x, depth = rows.pop()
        if depth > found[x]:
            found[x] = depth
            rows += [(y, depth + 1) for y in above[x]]
    return tuple(found)


def is_renaming(one, other, value):
    """Whether it is a renaming that leads one house to the other one (2.4)."""
    if type(value) is not tuple or len(one) != len(other) or len(value) != len(one):
        return False
    if not all(is_integer(x) for x in value) or sorted(value) != list(range(len(one))):
        return False
    lots = range(len(one))
    return all(one[x][y] == other[value[x]][value[y]] for x in lots for y in lots)


def are_alike(one, other, begun=()):
    """Whether there is a renaming; lots are named one after the other."""
    x = len(begun)
    if len(one) != len(other) or x == len(one):
        return len(one) == len(other)
    for y in range(len(other)):
        if y in begun or sum(one[x]) != sum(other[y]):
            continue
        if all(one[z][x] == other[to][y] and one[x][z] == other[y][to] for z, to in enumerate(begun)):
            if are_alike(one, other, begun + (y,)):
                return True
    return False
