"""Plans in all houses: whether they line up the hands, and whether two of them leave the same."""

from bothandall.bits import is_order_of_hands, neighbours, order_of_hands, strange_two
from bothandall.claims import all_claims, are_steps, claims_all, derivation_of, is_order, least_order, parts_and_held
from bothandall.houses import both_and_all, require_house
from bothandall.kinds import are_integers_below, has_form, is_integer_from
from bothandall.rows import (
    after_meeting, all_rows, require_hands, require_plan, require_two_plans, strange_in,
)


def judge_parts(parts, held, leads):
    """A certificate that the parts that hands hold are in one line, or that they are not."""
    steps, places = all_claims(parts, leads)
    within = [[(p, q) in places for q in held] for p in held]
    strange = strange_two(within)
    if strange is not None:
        return ("strange", *strange, least_order(len(parts), places))
    order = order_of_hands(within)
    wanted = [places[(held[i], held[j])] for i, j in neighbours(order)]
    return ("line", order, derivation_of(steps, wanted))


def holds_for_parts(parts, held, leads, thing):
    """Whether any value tells rightly whether the parts that hands hold are in one line."""
    if has_form(thing, "line", 2):
        _, order, steps = thing
        if not is_order_of_hands(len(held), order) or not are_steps(parts, leads, steps):
            return False
        return claims_all(steps, [(held[i], held[j]) for i, j in neighbours(order)])
    if not has_form(thing, "strange", 3) or not are_integers_below(thing[1:3], len(held)):
        return False
    _, i, j, table = thing
    if i >= j or not is_order(parts, leads, table):
        return False
    return table[held[i]][held[j]] == 0 and table[held[j]][held[i]] == 0


def judge_lining(hands, plan):
    """A certificate that a plan lines up the hands in all houses, or that it does not."""
    require_plan(hands, plan)
    parts, helds = parts_and_held(hands, (plan,))
    return judge_parts(parts, helds[0], ())


def lining_holds(hands, plan, thing):
    """Whether any value tells rightly whether a plan lines up the hands in all houses."""
    require_plan(hands, plan)
    parts, helds = parts_and_held(hands, (plan,))
    return holds_for_parts(parts, helds[0], (), thing)


def both_ways(pairs):
    """Some pairs, and each of them turned round."""
    return pairs + [(q, p) for p, q in pairs]


def judge_same_plans(hands, one, other):
    """A certificate that two plans leave the same in all houses, or a hand for which they do not."""
    require_two_plans(hands, one, other)
    parts, helds = parts_and_held(hands, (one, other))
    steps, places = all_claims(parts, ())
    pairs = list(zip(helds[0], helds[1]))
    for i in range(hands):
        if not all(pair in places for pair in both_ways(pairs[i:i + 1])):
            return ("unlike", i, least_order(len(parts), places))
    return ("same", derivation_of(steps, [places[pair] for pair in both_ways(pairs)]))


def same_plans_hold(hands, one, other, thing):
    """Whether any value tells rightly whether two plans leave the same in all houses."""
    require_two_plans(hands, one, other)
    parts, helds = parts_and_held(hands, (one, other))
    if has_form(thing, "same", 1):
        pairs = both_ways(list(zip(helds[0], helds[1])))
        return are_steps(parts, (), thing[1]) and claims_all(thing[1], pairs)
    if not has_form(thing, "unlike", 2) or not is_integer_from(thing[1], 0, hands - 1):
        return False
    _, i, table = thing
    if not is_order(parts, (), table):
        return False
    p, q = helds[0][i], helds[1][i]
    return table[p][q] == 0 or table[q][p] == 0


def strange_row(house, hands, plan):
    """A row of a house that is not at rest behind a plan, None if there is none."""
    require_hands(hands)
    require_house(house)
    require_plan(hands, plan)
    tables = both_and_all(house)
    for row in all_rows(len(house), hands):
        lots = row
        for meeting in plan:
            lots = after_meeting(tables, lots, meeting)
        if len(strange_in(house, lots)) > 0:
            return row
    return None
