"""Facts, rules by which facts follow from others, and lots that are closed under rules."""

from bothandall.errors import BadFacts, BadNumber, BadRules
from bothandall.kinds import are_integers_below, has_form, is_ascending, is_integer_from

MOST_FACTS = 6
MOST_RULES = 8


def is_lot_of_facts(m, thing):
    """Whether any value is an ascending tuple of some of m facts."""
    return are_integers_below(thing, m) and is_ascending(thing)


def is_rule(m, thing):
    """Whether any value is a rule of m facts."""
    if not isinstance(thing, tuple) or len(thing) != 2:
        return False
    ifs, fact = thing
    return is_lot_of_facts(m, ifs) and is_integer_from(fact, 0, m - 1) and fact not in ifs


def are_rules(m, thing):
    """Whether any value is rules of m facts."""
    require_number(m)
    if not isinstance(thing, tuple) or len(thing) > MOST_RULES:
        return False
    return all(is_rule(m, rule) for rule in thing)


def require_number(m):
    """Raise BadNumber unless m is a number of facts."""
    if not is_integer_from(m, 1, MOST_FACTS):
        raise BadNumber(m)


def require_rules(m, rules):
    """Raise the errors of m and of rules, in this order."""
    if not are_rules(m, rules):
        raise BadRules(rules)


def require_lot(m, rules, lot):
    """Raise the errors of m, of rules and of a lot of facts, in this order."""
    require_rules(m, rules)
    if not is_lot_of_facts(m, lot):
        raise BadFacts(lot)


def require_question(m, rules, lot, fact):
    """Raise the errors of the question whether a fact follows from a lot."""
    require_lot(m, rules, lot)
    if not is_integer_from(fact, 0, m - 1):
        raise BadNumber(fact)


def has_all(lot, facts):
    """Whether a lot has all of some facts."""
    return all(fact in lot for fact in facts)


def is_closed(rules, lot):
    """Whether a lot has the fact of each rule all of whose ifs it has."""
    return all(fact in lot or not has_all(lot, ifs) for ifs, fact in rules)


def steps_from(rules, lot):
    """Positions of rules, each of which puts a new fact to a lot, until it is closed."""
    held = list(lot)
    steps = []
    many = -1
    while many < len(steps):
        many = len(steps)
        for at, (ifs, fact) in enumerate(rules):
            if fact not in held and has_all(held, ifs):
                held.append(fact)
                steps.append(at)
    return steps


def closed_up(rules, lot):
    """The closure of a lot, without a look at whether the arguments are right."""
    put = [rules[at][1] for at in steps_from(rules, lot)]
    return tuple(sorted([*lot, *put]))


def in_both(one, other):
    """The facts that two lots share."""
    return tuple(fact for fact in one if fact in other)


def from_both(rules, one, other):
    """All that follows from two lots together."""
    return closed_up(rules, tuple(sorted(set(one) | set(other))))


def all_lots(m):
    """All lots of m facts, ascending."""
    lots = [()]
    for fact in range(m):
        lots = lots + [(*lot, fact) for lot in lots]
    return sorted(lots)


def closure(m, rules, lot):
    """What follows from a lot."""
    require_lot(m, rules, lot)
    return closed_up(rules, lot)


def closed_lots(m, rules):
    """The ascending tuple of the closed lots."""
    require_rules(m, rules)
    return tuple(lot for lot in all_lots(m) if is_closed(rules, lot))


def house_of(m, rules):
    """The house of the closed lots, in their ascending order."""
    lots = closed_lots(m, rules)
    return tuple(tuple(1 if has_all(other, lot) else 0 for other in lots) for lot in lots)


def judge_follows(m, rules, lot, fact):
    """Steps that lead from a lot to a fact, or a closed lot that bars it."""
    require_question(m, rules, lot, fact)
    closed = closed_up(rules, lot)
    if fact in closed:
        return ("steps", tuple(steps_from(rules, lot)))
    return ("closed", closed)


def follows_holds(m, rules, lot, fact, thing):
    """Whether any value is a certificate for rules, a lot and a fact."""
    require_question(m, rules, lot, fact)
    if has_form(thing, "steps", 1):
        return is_way_to(rules, lot, fact, thing[1])
    if has_form(thing, "closed", 1):
        return is_bar(m, rules, lot, fact, thing[1])
    return False


def is_way_to(rules, lot, fact, steps):
    """Whether any value is steps that lead from a lot to a fact."""
    if not are_integers_below(steps, len(rules)):
        return False
    held = list(lot)
    for at in steps:
        ifs, put = rules[at]
        if not has_all(held, ifs):
            return False
        held.append(put)
    return fact in held


def is_bar(m, rules, lot, fact, other):
    """Whether any value is a closed lot that has all of a lot, and not a fact."""
    if not is_lot_of_facts(m, other) or fact in other:
        return False
    return has_all(other, lot) and is_closed(rules, other)


def say_same(m, rules, others):
    """Whether two tuples of rules have the same closed lots."""
    require_rules(m, rules)
    require_rules(m, others)
    return closed_lots(m, rules) == closed_lots(m, others)


def is_needless(rules, at):
    """Whether the rule at a position follows from the other ones."""
    ifs, fact = rules[at]
    # What follows from its ifs alone decides: each closed lot around the ifs has all of it.
    return fact in closed_up(rules[:at] + rules[at + 1:], ifs)


def needless_rules(m, rules):
    """The ascending tuple of the positions of the needless rules."""
    require_rules(m, rules)
    return tuple(at for at in range(len(rules)) if is_needless(rules, at))


def fewer_rules(m, rules):
    """Some of the rules that say the same, none of them needless among them."""
    require_rules(m, rules)
    kept = rules
    # From the last one on, so that the positions that are still to come stay right. A rule
    # that is needed among more rules stays needed among fewer, so one round is enough.
    for at in reversed(range(len(rules))):
        if is_needless(kept, at):
            kept = kept[:at] + kept[at + 1:]
    return kept
