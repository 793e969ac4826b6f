"""Ties: the only meetings that are let, rings of them, and ways that lead through all hands."""

from bothandall.bits import is_order_of_hands, neighbours
from bothandall.errors import BadTies, HasRing
from bothandall.kinds import are_integers_below, has_form
from bothandall.reach import leads_of
from bothandall.rows import are_ascending_meetings, require_hands


def are_ties(hands, thing):
    """Whether any value is ties of so many hands."""
    require_hands(hands)
    return are_ascending_meetings(hands, thing)


def require_ties(hands, ties):
    """Raise the errors of a number of hands and of ties, in this order."""
    if not are_ties(hands, ties):
        raise BadTies(ties)


def order_and_rest(hands, ties):
    """An order of hands in which ties lead on, and the hands to each of which one leads from one of these."""
    order = ()
    rest = list(range(hands))
    while True:
        free = [j for j in rest if not any((i, j) in ties for i in rest)]
        if len(free) == 0:
            return order, rest
        order = (*order, *free)
        rest = [j for j in rest if j not in free]


def ring_in(rest, ties):
    """A ring among hands to each of which a tie leads from one of them."""
    way = [rest[0]]
    while True:
        ahead = [i for i in rest if (i, way[0]) in ties][0]
        if ahead in way:
            return tuple(way[:way.index(ahead) + 1])
        way = [ahead, *way]


def judge_round(hands, ties):
    """An order of the hands in which ties lead on, or a ring."""
    require_ties(hands, ties)
    order, rest = order_and_rest(hands, ties)
    if len(rest) == 0:
        return ("order", order)
    return ("ring", ring_in(rest, ties))


def round_holds(hands, ties, thing):
    """Whether any value tells rightly whether ties have a ring."""
    require_ties(hands, ties)
    if has_form(thing, "order", 1):
        order = thing[1]
        return is_order_of_hands(hands, order) and all(order.index(i) < order.index(j) for i, j in ties)
    return has_form(thing, "ring", 1) and is_ring(hands, ties, thing[1])


def is_ring(hands, ties, thing):
    """Whether any value is a ring of ties."""
    if not are_integers_below(thing, hands) or len(thing) < 2 or len(set(thing)) < len(thing):
        return False
    return all(pair in ties for pair in neighbours((*thing, thing[0])))


def order_without_ring(hands, ties):
    """An order of the hands in which ties lead on; raises HasRing, behind the other errors, if there is none."""
    certificate = judge_round(hands, ties)
    if certificate[0] == "ring":
        raise HasRing(certificate)
    return certificate[1]


def ring_row(hands, ties):
    """A row of bits that ties can change for ever, None if there is none."""
    certificate = judge_round(hands, ties)
    if certificate[0] == "order":
        return None
    # A single 1 goes round and round in the ring.
    return tuple(1 if hand == certificate[1][0] else 0 for hand in range(hands))


def judge_way(hands, ties):
    """An order of the hands with a tie from each one to the next one, or two hands without a way."""
    order = order_without_ring(hands, ties)
    for i, j in neighbours(order):
        # No other hand could stand between the two on a way from the one to the other.
        if (i, j) not in ties:
            return ("two", min(i, j), max(i, j))
    return ("way", order)


def way_holds(hands, ties, thing):
    """Whether any value tells rightly whether ties have a way through all hands."""
    order_without_ring(hands, ties)
    if has_form(thing, "way", 1):
        return is_order_of_hands(hands, thing[1]) and all(pair in ties for pair in neighbours(thing[1]))
    if not has_form(thing, "two", 2) or not are_integers_below(thing[1:], hands):
        return False
    _, i, j = thing
    leads = leads_of(hands, ties)
    return i < j and (i, j) not in leads and (j, i) not in leads


def bits_from(hands, ties, i):
    """For each hand 1 if it is a hand i, or ties lead there from i, and 0 for the others."""
    leads = leads_of(hands, ties)
    return [1 if hand == i or (i, hand) in leads else 0 for hand in range(hands)]


def strange_still(hands, ties):
    """A row that is still and not at rest, of two bits beside one another; None if ties have a way."""
    certificate = judge_way(hands, ties)
    if certificate[0] == "way":
        return None
    _, i, j = certificate
    return tuple(2 * one + other for one, other in zip(bits_from(hands, ties, i), bits_from(hands, ties, j)))
