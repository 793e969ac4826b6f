"""Wrong values for the arguments that many functions share."""

from tests import oracle_plans, oracle_rows, oracle_things
from tests.anything import any_values, near


def wrong_numbers(low, high):
    found = any_values() + near(low) + near(high) + [low - 1, high + 1, True, False]
    return [value for value in found if not (type(value) is int and low <= value <= high)]


WRONG_HANDS = wrong_numbers(1, 6)


def wrong_rows(house, row=(0, 1, 2)):
    many = len(house)
    odd = [(many,), (0, many), (-1,), (0, -1), (0,) * 7, (0,) * 8, (True,), (False, 0), [0], [0, 1], ((0,), (1,)), (0, "1")]
    return [value for value in odd + any_values() + near(row) if not oracle_rows.is_row(house, value)]


def odd_plans(hands):
    first = ((0, 1),) if hands > 1 else ()
    last = hands - 1
    return [
        first * 21, first * 40, ((0, 0),), ((last, last),), ((0, hands),), ((hands, 0),), ((-1, 0),), ((0, -1),),
        ((0, True),), ((False, 1),), ((0, 1, 0),), ((0,),), ([0, 1],), [(0, 1)], ((0, 1), [1, 0]), ((0, 1), None),
        (((0, 1),),), ((0, 1), ()), (0, 1), ("01",), ((0, "1"),), first + ((0, 0),), {(0, 1): 0}, {0: 1},
    ]


def wrong_plans(hands, plan=((0, 1), (1, 0))):
    found = odd_plans(hands) + any_values() + near(plan)
    return [value for value in found if not oracle_rows.is_plan(hands, value)]


def wrong_meetings(hands, meeting=(0, 1)):
    odd = [(0, 0), (0, hands), (hands, 0), (-1, 0), (0, -1), (0, True), (False, 1), [0, 1], (0, 1, 1), (0,), ((0, 1),)]
    return [value for value in odd + any_values() + near(meeting) if not oracle_rows.is_meeting(hands, value)]


def wrong_lines(house, line):
    """Values that are no line of as many lots of a house as a line has."""
    odd = [line[::-1], line + line[-1:], line[:-1], line + line, list(line), line[1:] + line[:1]]
    found = odd + any_values() + near(line)
    return [value for value in found if not (oracle_rows.is_line(house, value) and len(value) == len(line))]


def odd_told(hands):
    return [
        ((0, 1), (0, 1)), ((1, 0), (0, 1)), ((0, 0),), ((0, hands),), ((hands, 0),), ((-1, 0),), ((0, True),), ([0, 1],),
        [(0, 1)], ((0, 1), None), ((0, 1), [1, 0]), ((0, 1, 2),), ((0,),), (0, 1), ((0, 1), ()), (((0, 1),),), ((0, "1"),),
        {(0, 1): 0}, ((0, 1), (0, 0)), ((0, 1), (1, 0), (0, 1)),
    ]


def wrong_told(hands, told=((0, 1), (1, 0))):
    found = odd_told(hands) + any_values() + near(told)
    return [value for value in found if not oracle_plans.is_told(hands, value)]


def wrong_ties(hands, ties=((0, 1), (1, 0))):
    found = odd_told(hands) + any_values() + near(ties)
    return [value for value in found if not oracle_things.is_ties(hands, value)]
