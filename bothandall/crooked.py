"""Rules that make a house crooked: which lots show it, and the fewest changes that make it straight.

In the functions that search, lots of facts are told by masks: the fact k by the bit k.
"""

from itertools import combinations

from bothandall.kinds import are_integers_below, has_form, is_ascending
from bothandall.rules import from_both, in_both, is_closed, is_lot_of_facts, is_rule, require_rules


def mask_of_facts(lot):
    """The mask of a lot of facts."""
    return sum([1 << fact for fact in lot])


def lot_of_mask(m, mask):
    """The lot of facts of a mask."""
    return tuple(fact for fact in range(m) if (mask >> fact) & 1 == 1)


def closures_of_masks(m, rules):
    """For each mask the mask of what follows."""
    masks = [(mask_of_facts(ifs), 1 << fact) for ifs, fact in rules]
    closures = list(range(1 << m))
    for lot in reversed(range(1 << m)):
        for ifs, fact in masks:
            if lot & ifs == ifs and lot & fact == 0:
                # With the fact the mask is a greater integer, so what follows from that one is known.
                closures[lot] = closures[lot | fact]
    return closures


def lots_that_part(m, rules):
    """Masks of three closed lots that show that a house is crooked, None for a straight house."""
    closures = closures_of_masks(m, rules)
    closed = [lot for lot in range(1 << m) if closures[lot] == lot]
    # It is enough to ask what follows from single facts: each piece is one of these.
    for a in [closures[1 << fact] for fact in range(m)]:
        for at, b in enumerate(closed):
            for c in closed[:at]:
                if a & closures[b | c] != closures[(a & b) | (a & c)]:
                    return (a, b, c)
    return None


def makes_straight(m, rules):
    """Whether the house of some rules, perhaps more than eight, is straight."""
    return lots_that_part(m, rules) is None


def judge_rules(m, rules):
    """A certificate that the house of some rules is straight, or three lots that show that it is not."""
    require_rules(m, rules)
    lots = lots_that_part(m, rules)
    if lots is None:
        return ("straight",)
    return ("lots", *[lot_of_mask(m, lot) for lot in lots])


def rules_hold(m, rules, thing):
    """Whether any value tells rightly whether the house of some rules is straight."""
    require_rules(m, rules)
    if has_form(thing, "lots", 3):
        return are_parting_lots(m, rules, thing[1:])
    return has_form(thing, "straight", 0) and makes_straight(m, rules)


def are_parting_lots(m, rules, values):
    """Whether any three values are closed lots that show that a house is crooked."""
    if not all(is_lot_of_facts(m, lot) and is_closed(rules, lot) for lot in values):
        return False
    a, b, c = values
    high = in_both(a, from_both(rules, b, c))
    return len(high) > len(from_both(rules, in_both(a, b), in_both(a, c)))


def fewest(things, is_enough):
    """The first of the shortest tuples of some things, in their order, for which a function says True."""
    for many in range(len(things) + 1):
        for some in combinations(things, many):
            if is_enough(some):
                return some
    return None


def without(rules, positions):
    """Rules but for those at some positions."""
    return tuple(rule for at, rule in enumerate(rules) if at not in positions)


def cut_of(m, rules):
    """Positions of the fewest rules without which the house of the others is straight."""
    require_rules(m, rules)
    return fewest(list(range(len(rules))), lambda some: makes_straight(m, without(rules, some)))


def is_cut(m, rules, thing):
    """Whether any value is a cut."""
    require_rules(m, rules)
    if not are_integers_below(thing, len(rules)) or not is_ascending(thing):
        return False
    return makes_straight(m, without(rules, thing)) and len(thing) == len(cut_of(m, rules))


def is_bond(m, thing):
    """Whether any value is a rule with just one fact among its ifs."""
    return is_rule(m, thing) and len(thing[0]) == 1


def all_bonds(m):
    """The ascending list of all bonds of m facts."""
    return [((one,), other) for one in range(m) for other in range(m) if one != other]


def mend_of(m, rules):
    """The fewest bonds that make the house of some rules straight."""
    require_rules(m, rules)
    return fewest(all_bonds(m), lambda some: makes_straight(m, (*rules, *some)))


def is_mend(m, rules, thing):
    """Whether any value is a mend."""
    require_rules(m, rules)
    if not isinstance(thing, tuple) or not all(is_bond(m, bond) for bond in thing) or not is_ascending(thing):
        return False
    return makes_straight(m, (*rules, *thing)) and len(thing) == len(mend_of(m, rules))
