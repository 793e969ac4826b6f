"""Plans in straight houses: what they do to rows of noughts and ones tells all."""

from bothandall.houses import mask_of
from bothandall.kinds import are_integers_below, has_form
from bothandall.rows import all_rows, require_hands, require_plan, require_two_plans

# For each number of hands, from 1 on, a plan with the fewest meetings that lines them up.
LEAST_PLANS = (
    (),
    ((0, 1),),
    ((0, 1), (1, 2), (0, 1)),
    ((0, 1), (2, 3), (0, 2), (1, 3), (1, 2)),
    ((0, 3), (1, 4), (0, 2), (1, 3), (0, 1), (2, 4), (1, 2), (3, 4), (2, 3)),
    ((0, 5), (1, 3), (2, 4), (1, 2), (3, 4), (0, 3), (2, 5), (0, 1), (2, 3), (4, 5), (1, 2), (3, 4)),
)


def bits_behind(bits, plan):
    """What hands hold behind a plan: bits, or masks of bits in many rows at once."""
    held = list(bits)
    for i, j in plan:
        held[i], held[j] = held[i] & held[j], held[i] | held[j]
    return held


def masks_of_hands(rows, hands):
    """For each hand the mask of those of some rows of bits in which it has a 1."""
    return [mask_of([row[hand] for row in rows]) for hand in range(hands)]


def first_in(rows, mask):
    """The first of some rows that a mask has."""
    return rows[(mask & -mask).bit_length() - 1]


def strange_two(within):
    """The first two hands neither of which is within the other one, None if there are none.

    within: a table that has for each two hands whether the first one is within the second one.
    """
    for i in range(len(within)):
        for j in range(i + 1, len(within)):
            if not within[i][j] and not within[j][i]:
                return (i, j)
    return None


def order_of_hands(within):
    """An order in which each hand is within the next one, where no two are strange."""
    return tuple(sorted(range(len(within)), key=lambda i: -sum(within[i])))


def is_order_of_hands(hands, thing):
    """Whether any value is a tuple that has each of so many hands once."""
    return are_integers_below(thing, hands) and sorted(thing) == list(range(hands))


def neighbours(order):
    """The pairs of each hand but the last one and the next one in an order."""
    return [(order[at], order[at + 1]) for at in range(len(order) - 1)]


def judge_for_rows(rows, hands, plan):
    """A certificate that a plan lines up the hands for some rows of bits, or that it does not."""
    masks = bits_behind(masks_of_hands(rows, hands), plan)
    within = [[one & ~other == 0 for other in masks] for one in masks]
    strange = strange_two(within)
    if strange is None:
        return ("line", order_of_hands(within))
    i, j = strange
    return ("strange", i, j, first_in(rows, masks[i] & ~masks[j]), first_in(rows, masks[j] & ~masks[i]))


def holds_for_rows(rows, hands, plan, thing):
    """Whether any value tells rightly whether a plan lines up the hands for some rows of bits."""
    if has_form(thing, "line", 1):
        masks = bits_behind(masks_of_hands(rows, hands), plan)
        return is_order_of_hands(hands, thing[1]) and all(masks[i] & ~masks[j] == 0 for i, j in neighbours(thing[1]))
    if not has_form(thing, "strange", 4) or not are_integers_below(thing[1:3], hands):
        return False
    _, i, j, one, other = thing
    if i >= j or not are_integers_below(one, 2) or not are_integers_below(other, 2):
        return False
    if one not in rows or other not in rows:
        return False
    one, other = bits_behind(one, plan), bits_behind(other, plan)
    return (one[i], one[j], other[i], other[j]) == (1, 0, 0, 1)


def judge_bits(hands, plan):
    """A certificate that a plan lines up the hands in all straight houses, or that it does not."""
    require_plan(hands, plan)
    return judge_for_rows(all_rows(2, hands), hands, plan)


def bits_hold(hands, plan, thing):
    """Whether any value tells rightly whether a plan lines up the hands in all straight houses."""
    require_plan(hands, plan)
    return holds_for_rows(all_rows(2, hands), hands, plan, thing)


def judge_same_bits(hands, one, other):
    """A certificate that two plans leave the same in all straight houses, or a row of bits from which not."""
    require_two_plans(hands, one, other)
    rows = all_rows(2, hands)
    masks = masks_of_hands(rows, hands)
    unlike = 0
    for mask, more in zip(bits_behind(masks, one), bits_behind(masks, other)):
        unlike |= mask ^ more
    if unlike == 0:
        return ("same",)
    return ("row", first_in(rows, unlike))


def same_bits_hold(hands, one, other, thing):
    """Whether any value tells rightly whether two plans leave the same in all straight houses."""
    require_two_plans(hands, one, other)
    if has_form(thing, "row", 1):
        if not are_integers_below(thing[1], 2) or len(thing[1]) != hands:
            return False
        return bits_behind(thing[1], one) != bits_behind(thing[1], other)
    masks = masks_of_hands(all_rows(2, hands), hands)
    return has_form(thing, "same", 0) and bits_behind(masks, one) == bits_behind(masks, other)


def idle_meetings(hands, plan):
    """The ascending tuple of the positions of the meetings that change nothing in straight houses."""
    require_plan(hands, plan)
    masks = masks_of_hands(all_rows(2, hands), hands)
    idle = []
    for at, (i, j) in enumerate(plan):
        if masks[i] & ~masks[j] == 0:
            idle.append(at)
        masks = bits_behind(masks, plan[at:at + 1])
    return tuple(idle)


def least_plan(hands):
    """A plan with the fewest meetings that lines up the hands in all straight houses."""
    require_hands(hands)
    return LEAST_PLANS[hands - 1]
