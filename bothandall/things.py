"""Numbers, partings, spaces and stretches, which hands can hold as they hold lots."""

from math import gcd, isqrt, lcm

from bothandall.blocks import all_partings, is_parting_of, numbered, put_together
from bothandall.errors import BadNumber, BadPlan, BadThing, BadWay
from bothandall.kinds import are_integers_below, is_ascending, is_integer_from
from bothandall.making import require_at_most
from bothandall.rows import MOST_HANDS, is_list_of_meetings

MOST_SIZES = {"numbers": 1000000000000, "partings": 6, "spaces": 4, "stretches": 20}


def require_size(kind, size):
    """Raise the errors of a kind and of a size, in this order."""
    if not isinstance(kind, str) or kind not in MOST_SIZES:
        raise BadWay(kind)
    if not is_integer_from(size, 1, MOST_SIZES[kind]):
        raise BadNumber(size)


def is_thing(kind, size, thing):
    """Whether any value is a thing of a kind and a size."""
    require_size(kind, size)
    if kind == "numbers":
        return is_integer_from(thing, 1, size) and size % thing == 0
    if kind == "partings":
        return is_parting_of(size, thing)
    if kind == "spaces":
        return is_space(size, thing)
    return is_stretch(size, thing)


def is_space(size, thing):
    """Whether any value is an ascending tuple of rows of bits, as integers, that has 0 and all sums."""
    if not are_integers_below(thing, 1 << size) or not is_ascending(thing) or 0 not in thing:
        return False
    return all(one ^ other in thing for one in thing for other in thing)


def is_stretch(size, thing):
    """Whether any value is the empty stretch, or the least and the greatest place of one."""
    if not are_integers_below(thing, size):
        return False
    return len(thing) == 0 or (len(thing) == 2 and thing[0] <= thing[1])


def require_things(kind, size, values):
    """Raise the errors of a kind and of a size, or BadThing with the first of some values that is no thing."""
    for value in values:
        # This looks at the kind and the size, too, ahead of the value.
        if not is_thing(kind, size, value):
            raise BadThing(value)


def require_row_of_things(kind, size, row):
    """Raise the errors of a kind, of a size and of a row of things, in this order."""
    require_size(kind, size)
    if not isinstance(row, tuple) or not 1 <= len(row) <= MOST_HANDS:
        raise BadThing(row)
    if not all(is_thing(kind, size, value) for value in row):
        raise BadThing(row)


def held_by_both(kind, one, other):
    """The greatest thing within two things."""
    if kind == "numbers":
        return gcd(one, other)
    if kind == "partings":
        return numbered(list(zip(one, other)))
    if kind == "spaces":
        return tuple(row for row in one if row in other)
    if len(one) == 0 or len(other) == 0:
        return ()
    low, high = max(one[0], other[0]), min(one[1], other[1])
    return (low, high) if low <= high else ()


def held_by_either(kind, one, other):
    """The least thing around two things."""
    if kind == "numbers":
        return lcm(one, other)
    if kind == "partings":
        return joined(one, other)
    if kind == "spaces":
        return tuple(sorted({row ^ more for row in one for more in other}))
    if len(one) == 0 or len(other) == 0:
        return one if len(other) == 0 else other
    return (min(one[0], other[0]), max(one[1], other[1]))


def joined(one, other):
    """The parting that puts together what is together in one of two partings, and what that joins."""
    marks = list(one)
    for place, block in enumerate(other):
        marks = put_together(marks, other.index(block), place)
    return numbered(marks)


def both_things(kind, size, one, other):
    """The greatest thing within two things."""
    require_things(kind, size, (one, other))
    return held_by_both(kind, one, other)


def all_things(kind, size, one, other):
    """The least thing around two things."""
    require_things(kind, size, (one, other))
    return held_by_either(kind, one, other)


def is_within_thing(kind, size, one, other):
    """Whether a thing is within another one."""
    require_things(kind, size, (one, other))
    return held_by_both(kind, one, other) == one


def divisors(number):
    """The ascending list of the divisors of a number."""
    low = [least for least in range(1, isqrt(number) + 1) if number % least == 0]
    return low + [number // least for least in reversed(low) if least * least != number]


def all_spaces(size):
    """The ascending list of all spaces of rows of so many bits."""
    found = [(0,)]
    for row in range(1, 1 << size):
        found = sorted({more for space in found for more in (space, held_by_either("spaces", space, (0, row)))})
    return found


def things_of(kind, size):
    """The ascending list of all things of a kind and a size."""
    if kind == "numbers":
        return divisors(size)
    if kind == "partings":
        return all_partings(size)
    if kind == "spaces":
        return all_spaces(size)
    return [()] + [(low, high) for low in range(size) for high in range(low, size)]


def house_of_things(kind, size):
    """The pair of the house of a kind and a size, and of its things."""
    require_size(kind, size)
    things = tuple(things_of(kind, size))
    require_at_most(len(things))
    house = tuple(tuple(1 if held_by_both(kind, one, other) == one else 0 for other in things) for one in things)
    return house, things


def many_things(kind, size):
    """How many things of a kind and a size there are."""
    require_size(kind, size)
    return len(things_of(kind, size))


def held_behind(kind, row, plan):
    """The row of things behind a plan."""
    held = list(row)
    for i, j in plan:
        held[i], held[j] = held_by_both(kind, held[i], held[j]), held_by_either(kind, held[i], held[j])
    return tuple(held)


def resting_line(kind, size, row):
    """An end of a row of things."""
    require_row_of_things(kind, size, row)
    # Each round leaves, in its last hand, all of what its hands hold. Meetings of hands that are not
    # strange at most exchange things, so what is left is an end, too.
    plan = [(hand, hand + 1) for last in reversed(range(len(row))) for hand in range(last)]
    return held_behind(kind, row, plan)


def things_behind(kind, size, row, plan):
    """The row of things behind a plan."""
    require_row_of_things(kind, size, row)
    if not is_list_of_meetings(len(row), plan):
        raise BadPlan(plan)
    return held_behind(kind, row, plan)
