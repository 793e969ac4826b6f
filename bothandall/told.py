"""Told pairs: plans for rows in which some lots are within others, as is told ahead."""

from bothandall.bits import holds_for_rows, judge_for_rows
from bothandall.claims import parts_and_held
from bothandall.errors import BadTold
from bothandall.lining import holds_for_parts, judge_parts
from bothandall.reach import leads_of
from bothandall.rows import all_rows, are_ascending_meetings, require_hands, require_plan


def are_told(hands, thing):
    """Whether any value is told pairs of so many hands."""
    require_hands(hands)
    return are_ascending_meetings(hands, thing)


def require_told(hands, told, plan):
    """Raise the errors of a number of hands, of told pairs and of a plan, in this order."""
    if not are_told(hands, told):
        raise BadTold(told)
    require_plan(hands, plan)


def kept_rows(hands, told):
    """The rows of bits that keep told pairs."""
    return [row for row in all_rows(2, hands) if all(row[i] <= row[j] for i, j in told)]


def judge_told_bits(hands, told, plan):
    """A certificate that a plan lines up the hands in all straight houses, with told pairs, or not."""
    require_told(hands, told, plan)
    return judge_for_rows(kept_rows(hands, told), hands, plan)


def told_bits_hold(hands, told, plan, thing):
    """Whether any value tells rightly whether a plan does so in all straight houses."""
    require_told(hands, told, plan)
    return holds_for_rows(kept_rows(hands, told), hands, plan, thing)


def judge_with(hands, told, plan):
    """A certificate as of judge_told, without a look at whether the arguments are right."""
    parts, helds = parts_and_held(hands, (plan,))
    return judge_parts(parts, helds[0], leads_of(hands, told))


def judge_told(hands, told, plan):
    """A certificate that a plan lines up the hands in all houses, with told pairs, or that it does not."""
    require_told(hands, told, plan)
    return judge_with(hands, told, plan)


def told_holds(hands, told, plan, thing):
    """Whether any value tells rightly whether a plan lines up the hands in all houses, with told pairs."""
    require_told(hands, told, plan)
    parts, helds = parts_and_held(hands, (plan,))
    return holds_for_parts(parts, helds[0], leads_of(hands, told), thing)


def needless_pairs(hands, told, plan):
    """The ascending tuple of the told pairs without which a plan lines up the hands, too."""
    require_told(hands, told, plan)
    needless = []
    for at, pair in enumerate(told):
        if judge_with(hands, told[:at] + told[at + 1:], plan)[0] == "line":
            needless.append(pair)
    return tuple(needless)
