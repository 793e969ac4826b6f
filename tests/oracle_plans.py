"""What the document says of parts 7 to 9, word by word and without haste."""

from itertools import product

from tests.oracle import is_integer
from tests.oracle_rows import alls, boths, has_form, is_meeting, is_plan

# Part 7, and 9.2: rows of bits that keep told pairs


def bits_behind(bits, plan):
    held = list(bits)
    for i, j in plan:
        held[i], held[j] = min(held[i], held[j]), max(held[i], held[j])
    return tuple(held)


def rows_of_bits(hands, told=()):
    return [row for row in product((0, 1), repeat=hands) if all(row[i] <= row[j] for i, j in told)]


def are_bits(hands, value):
    return type(value) is tuple and len(value) == hands and all(is_integer(bit) and bit in (0, 1) for bit in value)


def is_hand(hands, value):
    return is_integer(value) and 0 <= value < hands


def is_order(hands, value):
    return type(value) is tuple and all(is_hand(hands, hand) for hand in value) and sorted(value) == list(range(hands))


def bits_certificate(hands, plan, thing, told=()):
    if has_form(thing, "line", 1):
        if not is_order(hands, thing[1]):
            return False
        for row in rows_of_bits(hands, told):
            line = [bits_behind(row, plan)[hand] for hand in thing[1]]
            if line != sorted(line):
                return False
        return True
    if not has_form(thing, "strange", 4):
        return False
    _, i, j, one, other = thing
    if not is_hand(hands, i) or not is_hand(hands, j) or i >= j:
        return False
    if not are_bits(hands, one) or not are_bits(hands, other):
        return False
    if one not in rows_of_bits(hands, told) or other not in rows_of_bits(hands, told):
        return False
    one, other = bits_behind(one, plan), bits_behind(other, plan)
    return one[i] == 1 and one[j] == 0 and other[i] == 0 and other[j] == 1


def same_bits_certificate(hands, one, other, thing):
    if has_form(thing, "same", 0):
        return all(bits_behind(row, one) == bits_behind(row, other) for row in rows_of_bits(hands))
    if not has_form(thing, "row", 1) or not are_bits(hands, thing[1]):
        return False
    return bits_behind(thing[1], one) != bits_behind(thing[1], other)


def idle_meetings(hands, plan):
    idle = []
    for at in range(len(plan)):
        rows = [bits_behind(row, plan[:at]) for row in rows_of_bits(hands)]
        if all(bits_behind(row, plan[at:at + 1]) == row for row in rows):
            idle.append(at)
    return tuple(idle)


# Part 8, and 9.3: parts, claims and orders


def parts_of(hands, *plans):
    """The parts of one plan, or of two, and what the hands hold behind each plan."""
    parts = [("hand", i) for i in range(hands)]
    behind = []
    for plan in plans:
        held = dict(enumerate(range(hands)))
        for i, j in plan:
            p, q = held[i], held[j]
            held[i] = len(parts)
            parts.append(("both", p, q))
            held[j] = len(parts)
            parts.append(("all", p, q))
        behind.append(tuple(held[hand] for hand in range(hands)))
    return tuple(parts), behind


def leads(hands, told):
    """The pairs of hands from the first one of which told pairs, one or several, lead to the second one."""
    found = set()
    for start in range(hands):
        reached = [j for i, j in told if i == start]
        while reached:
            hand = reached.pop()
            if (start, hand) not in found:
                found.add((start, hand))
                reached += [j for i, j in told if i == hand]
    return found


def is_step(parts, told, steps, at):
    """Whether what stands at a position is a step; what stands ahead of it consists of steps."""
    step = steps[at]
    if type(step) is not tuple or len(step) != 3:
        return False
    p, q, reason = step
    if not all(is_integer(part) and 0 <= part < len(parts) for part in (p, q)):
        return False
    if type(reason) is not tuple or not reason or type(reason[0]) is not str:
        return False
    word, earlier = reason[0], reason[1:]
    if not all(is_integer(s) and 0 <= s < at for s in earlier):
        return False
    if len(earlier) != {"same": 0, "told": 0, "first": 1, "second": 1, "each": 2, "into": 2}.get(word):
        return False
    claims = [(steps[s][0], steps[s][1]) for s in earlier]
    if word == "same":
        return p == q
    if word == "told":
        return (p, q) in told
    if word == "first":
        return parts[p][0] == "both" and (claims[0] == (parts[p][1], q) or claims[0] == (parts[p][2], q))
    if word == "second":
        return parts[q][0] == "all" and (claims[0] == (p, parts[q][1]) or claims[0] == (p, parts[q][2]))
    if word == "each":
        return parts[p][0] == "all" and claims[0] == (parts[p][1], q) and claims[1] == (parts[p][2], q)
    return parts[q][0] == "both" and claims[0] == (p, parts[q][1]) and claims[1] == (p, parts[q][2])


def is_derivation(parts, thing, told=()):
    if type(thing) is not tuple or len(thing) > 1600:
        return False
    return all(is_step(parts, told, thing, at) for at in range(len(thing)))


def is_parts_order(parts, thing, told=()):
    if type(thing) is not tuple or len(thing) != len(parts):
        return False
    if not all(are_bits(len(parts), row) for row in thing):
        return False
    every = range(len(parts))
    if not all(thing[p][p] for p in every) or not all(thing[i][j] for i, j in told):
        return False
    around = [{q for q in every if thing[p][q]} for p in every]
    if any(not around[q] <= around[p] for p in every for q in around[p]):
        return False
    for r, (word, *others) in enumerate(parts):
        if word == "both":
            p, q = others
            if not thing[r][p] or not thing[r][q]:
                return False
            if any(thing[s][p] and thing[s][q] and not thing[s][r] for s in every):
                return False
        if word == "all":
            p, q = others
            if not thing[p][r] or not thing[q][r]:
                return False
            if any(thing[p][s] and thing[q][s] and not thing[r][s] for s in every):
                return False
    return True


def lining_certificate(hands, plan, thing, told=()):
    """Whether it is a certificate of 8.4, or of 9.3; told has the pairs of leads."""
    parts, (held,) = parts_of(hands, plan)
    if has_form(thing, "line", 2):
        _, order, steps = thing
        if not is_order(hands, order) or not is_derivation(parts, steps, told):
            return False
        claims = {step[:2] for step in steps}
        return all((held[order[at]], held[order[at + 1]]) in claims for at in range(hands - 1))
    if not has_form(thing, "strange", 3):
        return False
    _, i, j, table = thing
    if not is_hand(hands, i) or not is_hand(hands, j) or i >= j or not is_parts_order(parts, table, told):
        return False
    return not table[held[i]][held[j]] and not table[held[j]][held[i]]


def same_plans_certificate(hands, one, other, thing):
    parts, (first, second) = parts_of(hands, one, other)
    if has_form(thing, "same", 1):
        if not is_derivation(parts, thing[1]):
            return False
        claims = {step[:2] for step in thing[1]}
        return all((first[i], second[i]) in claims and (second[i], first[i]) in claims for i in range(hands))
    if not has_form(thing, "unlike", 2) or not is_hand(hands, thing[1]) or not is_parts_order(parts, thing[2]):
        return False
    p, q = first[thing[1]], second[thing[1]]
    return not (thing[2][p][q] and thing[2][q][p])


# Part 9


def is_told(hands, value):
    if type(value) is not tuple or not all(is_meeting(hands, pair) for pair in value):
        return False
    return list(value) == sorted(set(value))


def is_right(hands, told, plan):
    return is_told(hands, told) and is_plan(hands, plan)


def order_of_row(house, row, *plans):
    """The order of the parts that a row of a house tells."""
    parts, _ = parts_of(len(row), *plans)
    lots = []
    for word, *others in parts:
        if word == "hand":
            lots.append(row[others[0]])
        else:
            table = boths(house) if word == "both" else alls(house)
            lots.append(table[lots[others[0]], lots[others[1]]])
    return tuple(tuple(house[x][y] for y in lots) for x in lots)
