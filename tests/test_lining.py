from itertools import permutations, product
from random import Random

from bothandall import lining as module
from bothandall.bits import judge_bits, judge_same_bits
from bothandall.errors import BadHouse, BadNumber, BadPlan
from bothandall.lining import judge_lining, judge_same_plans, lining_holds, same_plans_hold, strange_row
from tests import oracle_plans, oracle_rows
from tests.anything import any_values, is_equal, is_plain, near
from tests.checking import Case, spread
from tests.samples import (
    CROOKED, CUBE, FLAT, HOUSES, LADDERS, LEANING, ONE, SIX, STRAIGHT, TWO, chain, flat, plans_of, renamed_plan,
    some_plan, some_rows, turned_plan,
)
from tests.test_bits import pairs_of_plans
from tests.test_houses import wrong_houses
from tests.wrong import WRONG_HANDS, wrong_plans

SAME = ("same",)
LINE = ("line", (0, 1), ((0, 0, SAME), (2, 0, ("first", 0)), (2, 3, ("second", 1))))
STRANGE = ("strange", 0, 1, ((1, 0), (0, 1)))
PLANS = [(hands, plan) for hands in range(1, 7) for plan in plans_of(hands, 17, hands + 5)]


def held_lots(house, row, order, plan):
    lots = oracle_rows.behind(house, row, plan)
    return tuple(lots[hand] for hand in order)


class LiningTest(Case):
    def test_judged_rightly(self):
        kinds = set()
        for hands, plan in PLANS:
            found = self.told(judge_lining, hands=hands, plan=plan)
            self.assertTrue(is_plain(found))
            self.assertTrue(oracle_plans.lining_certificate(hands, plan, found), (hands, plan, found))
            self.assertIs(self.told(lining_holds, hands=hands, plan=plan, thing=found), True)
            if found[0] == "line":
                self.assertEqual(judge_bits(hands, plan), found[:2])
            kinds.add((hands, found[0]))
        self.assertEqual(len(kinds), 11)

    def test_all_short_plans(self):
        for hands, most in ((2, 3), (3, 3), (4, 1)):
            for many in range(most + 1):
                for plan in product(permutations(range(hands), 2), repeat=many):
                    found = judge_lining(hands, plan)
                    self.assertTrue(oracle_plans.lining_certificate(hands, plan, found), (hands, plan, found))

    def test_large_plans(self):
        for hands, plan in ((6, SIX + SIX[:2]), (4, some_plan(4, 18, 1)), (2, ((0, 1), (1, 0)) * 9), (6, LADDERS[6] + ((4, 5), (0, 1)))):
            found = judge_lining(hands, plan)
            self.assertTrue(oracle_plans.lining_certificate(hands, plan, found))
            self.assertIs(lining_holds(hands, plan, found), True)

    def test_ladders_and_six(self):
        for hands in range(1, 7):
            self.assertEqual(judge_lining(hands, LADDERS[hands])[:2], ("line", tuple(range(hands))))
            order = tuple(range(hands))[::-1]
            self.assertEqual(judge_lining(hands, turned_plan(LADDERS[hands]))[:2], ("line", order))
        self.assertEqual([judge_bits(6, SIX)[0], judge_lining(6, SIX)[0]], ["line", "strange"])
        names = (3, 5, 0, 2, 1, 4)
        self.assertEqual(judge_lining(6, renamed_plan(SIX, names))[0], "strange")
        self.assertEqual(judge_lining(6, SIX + ((4, 5),))[0], "strange")

    def test_lines_in_houses(self):
        for hands, plan in PLANS:
            found = judge_lining(hands, plan)
            if found[0] == "line":
                for house in (FLAT, LEANING, flat(8), CUBE, CROOKED[7], CROOKED[8]):
                    for row in some_rows(house, hands, 20, 3):
                        self.assertTrue(oracle_rows.is_line(house, held_lots(house, row, found[1], plan)))

    def test_orders_of_rows(self):
        # A row of a house that is not at rest behind the plan gives a certificate of its own.
        many = 0
        for hands, plan in PLANS:
            for house in (FLAT, LEANING, CUBE, flat(7)):
                for row in some_rows(house, hands, 3, len(plan)):
                    table = oracle_plans.order_of_row(house, row, plan)
                    strange = oracle_rows.strange_pairs(house, oracle_rows.behind(house, row, plan))
                    for i, j in product(range(hands), repeat=2):
                        found = lining_holds(hands, plan, ("strange", i, j, table))
                        self.assertIs(found, (i, j) in strange)
                        many += found
        self.assertGreater(many, 100)

    def test_other_derivations(self):
        hands, plan = 3, LADDERS[3]
        word, order, steps = judge_lining(hands, plan)
        more = steps + ((0, 0, SAME),) * 5 + steps[-1:]
        self.assertIs(lining_holds(hands, plan, (word, order, more)), True)
        self.assertIs(lining_holds(hands, plan, (word, order, steps + ((0, 0, SAME),) * (1600 - len(steps)))), True)
        self.assertIs(lining_holds(hands, plan, (word, order, steps + ((0, 0, SAME),) * (1601 - len(steps)))), False)
        for at in range(len(steps)):
            for value in (steps[:at], steps[:at] + steps[at + 1:], steps[at:] + steps[:at]):
                right = oracle_plans.lining_certificate(hands, plan, (word, order, value))
                self.assertIs(lining_holds(hands, plan, (word, order, value)), right)
        for other in permutations(range(3)):
            self.assertIs(lining_holds(hands, plan, (word, other, steps)), other == order)

    def test_just_what_is_asked(self):
        # The claims of neighbours are asked for, those of hands farther off are not enough.
        plan = LADDERS[3]
        parts, (held,) = oracle_plans.parts_of(3, plan)
        found = judge_lining(3, plan)
        claims = {step[:2] for step in found[2]}
        self.assertTrue({(held[0], held[1]), (held[1], held[2])} <= claims)
        self.assertIs(lining_holds(2, (), ("line", (0, 1), ((0, 0, SAME), (1, 1, SAME)))), False)
        self.assertIs(lining_holds(1, (), ("line", (0,), ())), True)
        self.assertIs(lining_holds(1, (), ("line", (0,), ((0, 0, SAME),))), True)
        self.assertIs(lining_holds(2, ((0, 1),), ("line", (0, 1), ())), False)

    def test_any_value(self):
        odd = [LINE, STRANGE, LINE[:2], LINE + (1,), ("line", (0, 1)), ("line", (0, 1), [LINE[2]]), ("line", [0, 1], LINE[2])]
        odd += [("strange", 1, 0, STRANGE[3]), ("strange", False, True, STRANGE[3]), ("strange", 0, 1, ((1, 0), (0, True)))]
        odd += [("strange", 0, 1, [(1, 0), (0, 1)]), ("strange", 0, 1, ((1, 1), (0, 1))), ("strange", 0, 1, ((1, 0), (1, 1)))]
        odd += [("strange", 0, 1, ((1, 0), [0, 1])), ("strange", 0, 1), ("strange", 0, 0, STRANGE[3]), ("strange", 0, 2, STRANGE[3])]
        odd += [("strange", -1, 1, STRANGE[3]), ("strange", (0, 1), STRANGE[3]), ("line", (True, False), LINE[2]), "line", ["line"]]
        odd += [("line", (1, 0), LINE[2]), ("line", (0, 0), LINE[2]), ("line", (0,), LINE[2]), ("line", (0, 1, 2), LINE[2])]
        odd += [("line", {}, LINE[2]), ("line", (0, 1), {}), ("line", (0, 1), None), ("strange", 0, 1, None), ("strange", 0, 1, {})]
        for hands, plan in ((2, ((0, 1),)), (2, ()), (1, ()), (3, ((0, 1), (1, 2))), (2, ((1, 0), (0, 1)))):
            found = judge_lining(hands, plan)
            for value in [found] + spread(near(found), 5000) + odd + any_values():
                told = self.told(lining_holds, hands=hands, plan=plan, thing=value)
                self.assertIs(told, oracle_plans.lining_certificate(hands, plan, value), (hands, plan, value))

    def test_nearly_right_ones_of_six(self):
        found = judge_lining(6, SIX)
        chance = Random(7)
        for value in chance.sample(near(found), 250):
            self.assertIs(lining_holds(6, SIX, value), oracle_plans.lining_certificate(6, SIX, value))

    def test_errors(self):
        wrong = [("hands", BadNumber, WRONG_HANDS), ("plan", BadPlan, wrong_plans(2))]
        right = {"hands": 2, "plan": ((0, 1), (1, 0))}
        self.refuses_in_order(judge_lining, right, wrong)
        for thing in (LINE, STRANGE, None):
            self.refuses_in_order(lining_holds, {**right, "thing": thing}, wrong)


def short_pairs():
    """Triples of a number of hands and two plans of at most 17 meetings together."""
    found = []
    for hands, one, other in pairs_of_plans(16):
        if len(one) + len(other) <= 17:
            found.append((hands, one, other))
    for hands in (3, 4, 5, 6):
        plan = some_plan(hands, 8, hands)
        found += [(hands, plan, plan), (hands, plan, plan[:3] + ((0, 1),) + plan[3:]), (hands, plan, plan[::-1])]
        found += [(hands, ((0, 1),), ((1, 0), (0, 1))), (hands, ((1, 0), (0, 1)), ((0, 1),)), (hands, ((0, 1), (0, 1)), ((0, 1),))]
    return found


class SamePlansTest(Case):
    def test_judged_rightly(self):
        kinds = set()
        for hands, one, other in short_pairs():
            found = self.told(judge_same_plans, hands=hands, one=one, other=other)
            self.assertTrue(is_plain(found))
            self.assertTrue(oracle_plans.same_plans_certificate(hands, one, other, found), (hands, one, other, found))
            self.assertIs(self.told(same_plans_hold, hands=hands, one=one, other=other, thing=found), True)
            if found[0] == "same":
                self.assertEqual(judge_same_bits(hands, one, other), ("same",))
            kinds.add((hands, found[0]))
        self.assertEqual(len(kinds), 11)

    def test_all_short_plans(self):
        plans = [plan for many in range(3) for plan in product(permutations(range(3), 2), repeat=many)]
        for one, other in product(plans[:20], plans):
            found = judge_same_plans(3, one, other)
            self.assertTrue(oracle_plans.same_plans_certificate(3, one, other, found), (one, other, found))

    def test_more_than_straight_houses(self):
        # In straight houses these two plans leave the same, in all houses they do not.
        one, other = ((0, 1), (1, 2), (0, 1)), ((1, 2), (0, 1), (1, 2))
        self.assertEqual(judge_same_bits(3, one, other), ("same",))
        found = judge_same_plans(3, one, other)
        self.assertEqual(found[0], "unlike")
        rows = product(range(5), repeat=3)
        unlike = [row for row in rows if oracle_rows.behind(FLAT, row, one) != oracle_rows.behind(FLAT, row, other)]
        self.assertTrue(unlike)
        for row in unlike:
            table = oracle_plans.order_of_row(FLAT, row, one, other)
            for i in range(3):
                right = oracle_plans.same_plans_certificate(3, one, other, ("unlike", i, table))
                self.assertIs(same_plans_hold(3, one, other, ("unlike", i, table)), right)

    def test_same_in_houses(self):
        for hands, one, other in short_pairs():
            if judge_same_plans(hands, one, other)[0] == "same":
                for house in (FLAT, LEANING, flat(8), CROOKED[7]):
                    for row in some_rows(house, hands, 8, 2):
                        behind = oracle_rows.behind
                        self.assertEqual(behind(house, row, one), behind(house, row, other))

    def test_orders_of_rows(self):
        many = 0
        for hands, one, other in spread(short_pairs(), 90):
            for house in (FLAT, LEANING, flat(7)):
                for row in some_rows(house, hands, 2, 8):
                    table = oracle_plans.order_of_row(house, row, one, other)
                    first, second = oracle_rows.behind(house, row, one), oracle_rows.behind(house, row, other)
                    for i in range(hands):
                        found = same_plans_hold(hands, one, other, ("unlike", i, table))
                        self.assertIs(found, first[i] != second[i])
                        many += found
        self.assertGreater(many, 100)

    def test_one_way_is_not_enough(self):
        # Behind the first plan the hand 0 has a part of what it has behind the other one.
        steps = ((0, 0, SAME), (2, 0, ("first", 0)))
        self.assertIs(same_plans_hold(2, ((0, 1),), (), ("same", steps)), False)
        found = judge_same_plans(2, ((0, 1),), ((0, 1),))
        for at in range(len(found[1])):
            value = ("same", found[1][:at] + found[1][at + 1:])
            right = oracle_plans.same_plans_certificate(2, ((0, 1),), ((0, 1),), value)
            self.assertIs(same_plans_hold(2, ((0, 1),), ((0, 1),), value), right)

    def test_edges(self):
        self.assertIs(same_plans_hold(1, (), (), ("same", ())), False)
        self.assertIs(same_plans_hold(1, (), (), ("same", ((0, 0, SAME),))), True)
        self.assertIs(same_plans_hold(1, (), (), ("same", ((0, 0, SAME),) * 1600)), True)
        self.assertIs(same_plans_hold(1, (), (), ("same", ((0, 0, SAME),) * 1601)), False)
        self.assertEqual(judge_same_plans(6, SIX, ())[0], "unlike")
        self.assertEqual(judge_same_plans(6, (), SIX)[0], "unlike")
        self.assertEqual(judge_same_plans(6, (), ())[0], "same")
        ladder = LADDERS[5][:8]
        self.assertEqual(judge_same_plans(5, ladder, ladder)[0], "same")

    def test_any_value(self):
        same = ("same", ((0, 0, SAME), (1, 1, SAME)))
        unlike = ("unlike", 0, ((1, 0, 0, 1), (0, 1, 0, 1), (1, 1, 1, 1), (0, 0, 0, 1)))
        odd = [same, unlike, ("same",), ("same", [(0, 0, SAME)]), ("unlike", True, unlike[2]), ("unlike", False, unlike[2]), "same"]
        odd += [("unlike", 2, unlike[2]), ("unlike", -1, unlike[2]), ("unlike", 0), ("unlike", 1, unlike[2]), ("unlike", (0, unlike[2]))]
        odd += [("unlike", 0, list(unlike[2])), ("unlike", 0, None), ("unlike", None, unlike[2]), ("unlike", 0, {}), ("same", None)]
        cases = [(2, (), ()), (2, ((0, 1),), ()), (2, (), ((0, 1),)), (1, (), ()), (2, ((0, 1),), ((1, 0), (0, 1))), (3, ((0, 1),), ((1, 0),))]
        for hands, one, other in cases:
            found = judge_same_plans(hands, one, other)
            for value in [found] + spread(near(found), 3000) + odd + any_values():
                told = self.told(same_plans_hold, hands=hands, one=one, other=other, thing=value)
                right = oracle_plans.same_plans_certificate(hands, one, other, value)
                self.assertIs(told, right, (hands, one, other, value))

    def test_errors(self):
        right = {"hands": 2, "one": ((0, 1),), "other": ((1, 0),)}
        plans = wrong_plans(2)
        wrong = [("hands", BadNumber, WRONG_HANDS), ("one", BadPlan, plans), ("other", BadPlan, plans[::-1])]
        self.refuses_in_order(judge_same_plans, right, wrong)
        for thing in (("same", ()), None):
            self.refuses_in_order(same_plans_hold, {**right, "thing": thing}, wrong)


class StrangeRowTest(Case):
    def test_small_houses(self):
        kinds = set()
        for house in (ONE, TWO, chain(4), FLAT, LEANING, CUBE, flat(4), CROOKED[7], flat(24)):
            for hands in range(1, 7):
                if len(house) ** hands > 700:
                    continue
                rows = list(product(range(len(house)), repeat=hands))
                for plan in spread(plans_of(hands, 20, hands), 8):
                    strange = [row for row in rows if oracle_rows.line_of(house, oracle_rows.behind(house, row, plan)) is None]
                    found = self.told(strange_row, house=house, hands=hands, plan=plan)
                    self.assertEqual(found is None, not strange)
                    self.assertTrue(found is None or found in strange and is_plain(found))
                    kinds.add((hands, found is None))
        self.assertTrue({(hands, True) for hands in range(1, 7)} <= kinds)
        self.assertTrue({(2, False), (3, False), (4, False)} <= kinds, kinds)

    def test_near_the_limit(self):
        self.assertIs(strange_row(FLAT, 6, LADDERS[6]), None)
        self.assertIs(strange_row(LEANING, 6, LADDERS[6] + SIX[:5]), None)
        self.assertIs(strange_row(flat(24), 3, LADDERS[3]), None)
        self.assertIs(strange_row(chain(11), 4, some_plan(4, 20, 2)), None)
        for house, hands, plan in ((FLAT, 6, LADDERS[6][:-1]), (flat(24), 3, ((1, 2), (0, 1))), (CUBE, 4, LADDERS[4][1:])):
            found = strange_row(house, hands, plan)
            self.assertTrue(oracle_rows.is_row(house, found) and len(found) == hands)
            self.assertTrue(oracle_rows.strange_pairs(house, oracle_rows.behind(house, found, plan)))

    def test_as_judged(self):
        for hands, plan in PLANS:
            if len(FLAT) ** hands <= 700:
                line = judge_lining(hands, plan)[0] == "line"
                straight = judge_bits(hands, plan)[0] == "line"
                for house in (FLAT, LEANING, TWO, CUBE if hands < 3 else TWO):
                    found = strange_row(house, hands, plan)
                    if line or straight and house in STRAIGHT:
                        self.assertIs(found, None)

    def test_errors(self):
        # The number of hands is told ahead of the house, although it stands behind it.
        right = {"house": FLAT, "hands": 2, "plan": ((0, 1), (1, 0))}
        self.refuses_in_order(strange_row, right, [
            ("hands", BadNumber, WRONG_HANDS), ("house", BadHouse, spread(wrong_houses(), 900)), ("plan", BadPlan, wrong_plans(2)),
        ])
        for house in HOUSES[:6]:
            self.refuses(BadPlan, ((0, 2),), strange_row, house=house, hands=2, plan=((0, 2),))


class PlaceTest(Case):
    def test_defined_here(self):
        for name in ("judge_lining", "lining_holds", "judge_same_plans", "same_plans_hold", "strange_row"):
            self.assertEqual(getattr(module, name).__module__, "bothandall.lining")

    def test_equal_calls(self):
        for hands, plan in PLANS[::7]:
            self.assertTrue(is_equal(judge_lining(hands, plan), judge_lining(hands, plan)))
