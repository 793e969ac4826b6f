"""The examples of the document, as they stand there."""

from unittest import TestCase

from bothandall.houses import (
    all_of, both, depths, greatest, house_holds, is_house, judge_house, least, pieces, steps_above,
)
from bothandall.making import above, alike_holds, beside, judge_alike, stretch, turned_over
from bothandall.rules import (
    closed_lots, closure, fewer_rules, follows_holds, house_of, judge_follows, needless_rules, say_same,
)
from tests.anything import is_equal

RULES = (((0, 1), 2), ((2,), 0), ((2,), 1))
FLAT = ((1, 1, 1, 1, 1), (0, 1, 0, 0, 1), (0, 0, 1, 0, 1), (0, 0, 0, 1, 1), (0, 0, 0, 0, 1))
LEANING = ((1, 1, 1, 1, 1), (0, 1, 1, 0, 1), (0, 0, 1, 0, 1), (0, 0, 0, 1, 1), (0, 0, 0, 0, 1))
TWO = ((1, 1), (0, 1))


class ExamplesTest(TestCase):
    def same(self, found, told):
        self.assertEqual(found, told)
        self.assertTrue(is_equal(found, told))

    def test_rules(self):
        self.same([
            closure(3, RULES, (2,)), closed_lots(3, RULES), house_of(3, RULES), judge_follows(3, RULES, (0,), 1),
            follows_holds(3, RULES, (0, 1), 2, ("steps", (0,))), needless_rules(2, (((0,), 1), ((), 1))),
        ], [
            (0, 1, 2), ((), (0,), (0, 1, 2), (1,)), ((1, 1, 1, 1), (0, 1, 1, 0), (0, 0, 1, 0), (0, 0, 1, 1)),
            ("closed", (0,)), True, (0,),
        ])
        self.same(
            [fewer_rules(2, (((0,), 1), ((), 1))), say_same(2, (((0,), 1), ((), 1)), (((), 1),))],
            [(((), 1),), True],
        )

    def test_houses(self):
        self.same([
            is_house(FLAT), both(FLAT, 1, 2), all_of(LEANING, 1, 3), depths(LEANING), pieces(FLAT), least(FLAT),
            greatest(FLAT), steps_above(LEANING, 0), judge_house(((1, 1), (1, 1)))[0],
            house_holds(((1, 0), (0, 1)), ("all", 1, 0)),
        ], [True, 0, 4, (0, 1, 2, 1, 3), (1, 2, 3), 0, 4, (1, 3), "round", True])

    def test_making(self):
        self.same([
            turned_over(TWO), beside(TWO, TWO), above(TWO, ((1,),)), stretch(FLAT, 1, 4),
            judge_alike(TWO, turned_over(TWO)), alike_holds(FLAT, LEANING, ("unlike",)),
        ], [
            ((1, 0), (1, 1)), ((1, 1, 1, 1), (0, 1, 0, 1), (0, 0, 1, 1), (0, 0, 0, 1)),
            ((1, 1, 1), (0, 1, 1), (0, 0, 1)), ((1, 1), (0, 1)), ("alike", (1, 0)), True,
        ])
