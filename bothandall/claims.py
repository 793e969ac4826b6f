"""Claims that one part of a plan is within another one, and orders of all parts.

Parts are told as `parts_of` tells them; `leads` are the pairs of hands (i, j) from the first one of
which told pairs lead to the second one, so that the part i is within the part j at first.
"""

from bothandall.houses import masks_around, masks_within
from bothandall.kinds import are_integers_below, is_square

MOST_STEPS = 1600


def parts_and_held(hands, plans):
    """The tuple of the parts of some plans, and for each plan the parts that the hands hold behind it."""
    parts = [("hand", i) for i in range(hands)]
    helds = []
    for plan in plans:
        held = list(range(hands))
        for i, j in plan:
            p, q = held[i], held[j]
            held[i], held[j] = len(parts), len(parts) + 1
            parts.append(("both", p, q))
            parts.append(("all", p, q))
        helds.append(tuple(held))
    return tuple(parts), helds


def ways_to_claim(parts, leads, p, q):
    """All pairs of the word of a reason to claim that p is within q, and of the claims that it asks for."""
    ways = []
    if p == q:
        ways.append(("same", []))
    if (p, q) in leads:
        ways.append(("told", []))
    inner = [(part, q) for part in parts[p][1:]]
    outer = [(p, part) for part in parts[q][1:]]
    if parts[p][0] == "both":
        ways += [("first", [claim]) for claim in inner]
    if parts[q][0] == "all":
        ways += [("second", [claim]) for claim in outer]
    if parts[p][0] == "all":
        ways.append(("each", inner))
    if parts[q][0] == "both":
        ways.append(("into", outer))
    return ways


def is_step(parts, leads, steps, at):
    """Whether any value at a position of a tuple is a step, those ahead of it being steps."""
    step = steps[at]
    if not isinstance(step, tuple) or len(step) != 3 or not are_integers_below(step[:2], len(parts)):
        return False
    p, q, reason = step
    if not isinstance(reason, tuple) or len(reason) == 0 or not are_integers_below(reason[1:], at):
        return False
    claims = [steps[s][:2] for s in reason[1:]]
    return (reason[0], claims) in ways_to_claim(parts, leads, p, q)


def are_steps(parts, leads, thing):
    """Whether any value is a derivation over parts."""
    if not isinstance(thing, tuple) or len(thing) > MOST_STEPS:
        return False
    return all(is_step(parts, leads, thing, at) for at in range(len(thing)))


def claims_all(steps, pairs):
    """Whether steps claim for each of some pairs of parts that the first one is within the second one."""
    claimed = {step[:2]: True for step in steps}
    return all(pair in claimed for pair in pairs)


def all_claims(parts, leads):
    """Steps that claim all that can be claimed, and for each claim the position of its step."""
    steps = []
    places = {}
    # Parts are both or all of parts ahead of them, so whatever a claim asks for is judged ahead of it.
    for p in range(len(parts)):
        for q in range(len(parts)):
            for word, claims in ways_to_claim(parts, leads, p, q):
                if (p, q) not in places and all(claim in places for claim in claims):
                    places[(p, q)] = len(steps)
                    steps.append((p, q, (word, *[places[claim] for claim in claims])))
    return steps, places


def derivation_of(steps, wanted):
    """The derivation of the steps at some positions, of those of some steps that these need alone."""
    needed = [False] * len(steps)
    for at in wanted:
        needed[at] = True
    for at in reversed(range(len(steps))):
        if needed[at]:
            for s in steps[at][2][1:]:
                needed[s] = True
    names = {}
    derivation = []
    for at, (p, q, reason) in enumerate(steps):
        if needed[at]:
            names[at] = len(derivation)
            derivation.append((p, q, (reason[0], *[names[s] for s in reason[1:]])))
    return tuple(derivation)


def least_order(many, places):
    """The order of so many parts in which one is within another one just if it can be claimed."""
    return tuple(tuple(1 if (p, q) in places else 0 for q in range(many)) for p in range(many))


def is_order(parts, leads, thing):
    """Whether any value is an order of parts."""
    if not is_square(thing, len(parts)) or not all(thing[i][j] == 1 for i, j in leads):
        return False
    around, within = masks_around(thing), masks_within(thing)
    for p in range(len(parts)):
        if thing[p][p] == 0 or has_jump(thing, around, p):
            return False
        # Where each part is within itself, and none jumps, these are what both and all ask for.
        word, *others = parts[p]
        if word == "both" and within[p] != within[others[0]] & within[others[1]]:
            return False
        if word == "all" and around[p] != around[others[0]] & around[others[1]]:
            return False
    return True


def has_jump(table, around, p):
    """Whether a part is within another one, and that one within a third one that the part is not within."""
    return any(table[p][q] == 1 and around[q] & ~around[p] != 0 for q in range(len(table)))
