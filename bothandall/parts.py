"""The parts of a plan: what the hands hold at first, and both and all of parts."""

from bothandall.claims import are_steps, is_order, parts_and_held
from bothandall.rows import require_plan


def parts_of(hands, plan):
    """The tuple of the parts of a plan, as they are told."""
    require_plan(hands, plan)
    parts, _ = parts_and_held(hands, (plan,))
    return parts


def held_parts(hands, plan):
    """The tuple that has for each hand the part that it holds behind a plan."""
    require_plan(hands, plan)
    _, helds = parts_and_held(hands, (plan,))
    return helds[0]


def is_derivation(hands, plan, thing):
    """Whether any value is a derivation over the parts of a plan."""
    return are_steps(parts_of(hands, plan), (), thing)


def is_parts_order(hands, plan, thing):
    """Whether any value is an order of the parts of a plan."""
    return is_order(parts_of(hands, plan), (), thing)
