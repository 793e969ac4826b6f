from itertools import permutations, product
from random import Random

from bothandall import told as module
from bothandall.bits import judge_bits
from bothandall.errors import BadNumber, BadPlan, BadTold
from bothandall.lining import judge_lining
from bothandall.parts import is_derivation, is_parts_order
from bothandall.told import are_told, judge_told, judge_told_bits, needless_pairs, told_bits_hold, told_holds
from tests import oracle_plans, oracle_rows
from tests.anything import any_values, is_equal, is_plain, near
from tests.checking import Case, spread
from tests.samples import (
    CROOKED, CUBE, FLAT, LADDERS, LEANING, SIX, STRAIGHT, flat, plans_of, some_plan, some_rows, some_told,
)
from tests.wrong import WRONG_HANDS, odd_told, wrong_plans, wrong_told

SAME, TOLD = ("same",), ("told",)


def cases_of(most):
    """Triples of a number of hands, told pairs and a plan."""
    found = []
    for hands in range(1, 7):
        plans = [plan for plan in plans_of(hands, most, hands + 1)]
        for seed, told in enumerate(some_told(hands, hands)):
            found += [(hands, told, plan) for plan in spread(plans[seed % 3:], 7) + [()]]
    return found


CASES = cases_of(17)


class AreToldTest(Case):
    def test_any_value(self):
        for hands in range(1, 7):
            for value in some_told(hands, 2) + odd_told(hands) + any_values() + near(((0, 1), (1, 0))):
                found = self.told(are_told, hands=hands, thing=value)
                self.assertIs(found, oracle_plans.is_told(hands, value), (hands, value))

    def test_all_pairs(self):
        for hands in range(1, 7):
            pairs = list(product(range(-1, 7), repeat=2))
            for pair in pairs:
                self.assertIs(are_told(hands, (pair,)), oracle_plans.is_told(hands, (pair,)))
        for some in product(permutations(range(3), 2), repeat=3):
            self.assertIs(are_told(3, some), oracle_plans.is_told(3, some))
            self.assertIs(are_told(3, some[:2]), oracle_plans.is_told(3, some[:2]))
        every = tuple(permutations(range(6), 2))
        self.assertIs(are_told(6, every), True)
        self.assertIs(are_told(6, every + every[-1:]), False)
        self.assertIs(are_told(6, every[::-1]), False)

    def test_errors(self):
        for thing in ((), ((0, 1),), None):
            self.refuses_in_order(are_told, {"hands": 2, "thing": thing}, [("hands", BadNumber, WRONG_HANDS)])


class ToldBitsTest(Case):
    def test_judged_rightly(self):
        kinds = set()
        for hands, told, plan in CASES:
            found = self.told(judge_told_bits, hands=hands, told=told, plan=plan)
            self.assertTrue(is_plain(found))
            right = oracle_plans.bits_certificate(hands, plan, found, told)
            self.assertTrue(right, (hands, told, plan, found))
            self.assertIs(self.told(told_bits_hold, hands=hands, told=told, plan=plan, thing=found), True)
            if told == ():
                self.assertEqual(found, judge_bits(hands, plan))
            kinds.add((hands, found[0]))
        self.assertEqual(len(kinds), 11)

    def test_plans_of_20_meetings(self):
        for hands in range(2, 7):
            for told in some_told(hands, 3):
                plan = some_plan(hands, 20, hands)
                found = judge_told_bits(hands, told, plan)
                self.assertTrue(oracle_plans.bits_certificate(hands, plan, found, told))

    def test_all_certificates(self):
        for told in ((), ((0, 1),), ((0, 1), (1, 0)), ((0, 1), (1, 2)), ((0, 1), (1, 2), (2, 0)), ((2, 0),)):
            for plan in ((), ((1, 0),), ((0, 2), (1, 2))):
                rows = oracle_plans.rows_of_bits(3)
                things = [("line", order) for order in permutations(range(3))]
                things += [("strange", i, j, one, other) for i, j in ((0, 1), (0, 2), (1, 2), (1, 0)) for one in rows for other in rows]
                for thing in things:
                    right = oracle_plans.bits_certificate(3, plan, thing, told)
                    self.assertIs(told_bits_hold(3, told, plan, thing), right, (told, plan, thing))

    def test_rows_that_do_not_keep_the_pairs(self):
        strange = ("strange", 0, 1, (1, 0), (0, 1))
        self.assertIs(told_bits_hold(2, (), (), strange), True)
        for told in (((0, 1),), ((1, 0),), ((0, 1), (1, 0))):
            self.assertIs(told_bits_hold(2, told, (), strange), False)
        # Both hands hold the same, so there are two right orders.
        for order in ((0, 1), (1, 0)):
            self.assertIs(told_bits_hold(2, ((0, 1), (1, 0)), (), ("line", order)), True)

    def test_rows_of_straight_houses(self):
        for hands, told, plan in CASES:
            found = judge_told_bits(hands, told, plan)
            if found[0] == "line":
                for house in STRAIGHT[:6]:
                    for row in some_rows(house, hands, 20, 1):
                        if all(house[row[i]][row[j]] for i, j in told):
                            lots = oracle_rows.behind(house, row, plan)
                            self.assertTrue(oracle_rows.is_line(house, tuple(lots[hand] for hand in found[1])))

    def test_any_value(self):
        odd = [("line", (True, False)), ("line", [0, 1]), ("strange", 0, 1, (1, 0), (0, 1)), ("strange", 0, 1, (True, 0), (0, 1))]
        odd += [("strange", False, 1, (1, 0), (0, 1)), ("line", (0, 1)), ("line", (1, 0)), ("strange", 0, 1, [1, 0], (0, 1))]
        cases = [(2, ((0, 1),), ()), (2, ((0, 1), (1, 0)), ()), (3, ((0, 1),), ()), (3, ((0, 1),), ((0, 2), (1, 2))), (1, (), ())]
        for hands, told, plan in cases:
            found = judge_told_bits(hands, told, plan)
            for value in [found] + near(found) + odd + any_values():
                right = oracle_plans.bits_certificate(hands, plan, value, told)
                self.assertIs(self.told(told_bits_hold, hands=hands, told=told, plan=plan, thing=value), right, value)


def chance_orders(hands, told, plan, many, seed):
    """Orders of the parts that rows of houses tell which keep told pairs."""
    found = []
    for house in (FLAT, LEANING, CUBE, flat(7)):
        for row in some_rows(house, hands, many, seed):
            if all(house[row[i]][row[j]] for i, j in told):
                found.append((house, row, oracle_plans.order_of_row(house, row, plan)))
    return found


class ToldTest(Case):
    def test_judged_rightly(self):
        kinds = set()
        for hands, told, plan in CASES:
            found = self.told(judge_told, hands=hands, told=told, plan=plan)
            self.assertTrue(is_plain(found))
            leads = oracle_plans.leads(hands, told)
            right = oracle_plans.lining_certificate(hands, plan, found, leads)
            self.assertTrue(right, (hands, told, plan, found))
            self.assertIs(self.told(told_holds, hands=hands, told=told, plan=plan, thing=found), True)
            if told == ():
                self.assertEqual(found, judge_lining(hands, plan))
            if found[0] == "line":
                self.assertEqual(judge_told_bits(hands, told, plan)[0], "line")
            kinds.add((hands, found[0]))
        self.assertEqual(len(kinds), 11)

    def test_all_short_plans(self):
        told_pairs = [(), ((0, 1),), ((1, 0), (2, 0)), ((0, 1), (1, 2)), ((0, 1), (1, 0)), ((0, 2), (1, 2)), ((0, 1), (1, 2), (2, 0))]
        for many in range(3):
            for plan in product(permutations(range(3), 2), repeat=many):
                for told in told_pairs:
                    found = judge_told(3, told, plan)
                    leads = oracle_plans.leads(3, told)
                    self.assertTrue(oracle_plans.lining_certificate(3, plan, found, leads), (told, plan, found))

    def test_told_steps(self):
        cases = {(): (), ((0, 1),): ((0, 1),), ((0, 1), (1, 2)): ((0, 1), (1, 2), (0, 2))}
        cases[((0, 1), (1, 0))] = ((0, 1), (1, 0), (0, 0), (1, 1))
        cases[((0, 1), (1, 2), (2, 0))] = tuple(product(range(3), repeat=2))
        cases[((0, 1), (2, 0))] = ((0, 1), (2, 0), (2, 1))
        plan = ((0, 1), (0, 2), (1, 2))
        for told, leads in cases.items():
            certificate = judge_told(3, told, plan)
            self.assertEqual(certificate[0], "line")
            for p, q in product(range(-1, 9), repeat=2):
                thing = certificate[:2] + (certificate[2] + ((p, q, TOLD),),)
                self.assertIs(told_holds(3, told, plan, thing), (p, q) in leads, (told, p, q))
                thing = certificate[:2] + (certificate[2] + ((p, q, ("told", 0)),),)
                self.assertIs(told_holds(3, told, plan, thing), False)

    def test_lines_of_told_pairs_alone(self):
        self.assertEqual(judge_told(6, tuple((hand, hand + 1) for hand in range(5)), ())[:2], ("line", (0, 1, 2, 3, 4, 5)))
        self.assertEqual(judge_told(3, ((0, 1), (1, 2)), ())[:2], ("line", (0, 1, 2)))
        # The pair (0, 2) is led to by others alone.
        self.assertIs(told_holds(3, ((0, 1), (1, 2)), (), ("line", (0, 1, 2), ((0, 1, TOLD), (1, 2, TOLD)))), True)
        self.assertIs(told_holds(3, ((0, 1), (1, 2)), (), ("line", (0, 1, 2), ((0, 1, TOLD), (0, 2, TOLD)))), False)
        self.assertIs(told_holds(3, ((0, 1), (1, 2)), (), ("line", (0, 2, 1), ((0, 2, TOLD), (2, 1, TOLD)))), False)
        self.assertIs(told_holds(2, ((0, 1),), (), ("line", (1, 0), ((1, 0, TOLD),))), False)
        round_pairs = ((0, 1), (1, 2), (2, 0))
        for order in permutations(range(3)):
            steps = tuple((*pair, TOLD) for pair in zip(order, order[1:]))
            self.assertIs(told_holds(3, round_pairs, (), ("line", order, steps)), True)

    def test_no_told_steps_elsewhere(self):
        self.assertIs(is_derivation(2, (), ((0, 1, TOLD),)), False)
        self.assertIs(told_holds(2, (), (), ("line", (0, 1), ((0, 1, TOLD),))), False)
        # Without told pairs an order need not have them.
        table = ((1, 0), (0, 1))
        self.assertIs(is_parts_order(2, (), table), True)
        self.assertIs(told_holds(2, (), (), ("strange", 0, 1, table)), True)
        self.assertIs(told_holds(2, ((0, 1),), (), ("strange", 0, 1, table)), False)

    def test_orders_of_rows(self):
        many = 0
        for hands, told, plan in spread(CASES, 150):
            for house, row, table in chance_orders(hands, told, plan, 4, len(plan)):
                strange = oracle_rows.strange_pairs(house, oracle_rows.behind(house, row, plan))
                for i, j in product(range(hands), repeat=2):
                    found = told_holds(hands, told, plan, ("strange", i, j, table))
                    self.assertIs(found, (i, j) in strange)
                    many += found
        self.assertGreater(many, 50)

    def test_orders_that_do_not_keep_the_pairs(self):
        chance = Random(2)
        kinds = set()
        for hands, told, plan in chance.sample([case for case in CASES if case[0] > 2], 120):
            leads = oracle_plans.leads(hands, told)
            for house, row, table in chance_orders(hands, (), plan, 2, 1):
                for i, j in oracle_rows.strange_pairs(house, oracle_rows.behind(house, row, plan)):
                    thing = ("strange", i, j, table)
                    right = oracle_plans.lining_certificate(hands, plan, thing, leads)
                    self.assertIs(told_holds(hands, told, plan, thing), right)
                    kinds.add(right)
        self.assertEqual(kinds, {True, False})

    def test_lines_in_houses(self):
        for hands, told, plan in CASES:
            found = judge_told(hands, told, plan)
            if found[0] == "line":
                for house in (FLAT, LEANING, CROOKED[7]):
                    for row in some_rows(house, hands, 30, 9):
                        if all(house[row[i]][row[j]] for i, j in told):
                            lots = oracle_rows.behind(house, row, plan)
                            self.assertTrue(oracle_rows.is_line(house, tuple(lots[hand] for hand in found[1])))

    def test_any_value(self):
        odd = [("line", (1, 0), ((1, 0, TOLD),)), ("line", (0, 1), ((0, 1, TOLD),)), ("line", (0, 1), ((False, True, TOLD),))]
        odd += [("line", (0, 1), ((0, 1, ("told", 0)),)), ("line", (0, 1), ((0, 1, "told"),)), ("line", (0, 1), ((0, 1, ["told"]),))]
        odd += [("strange", 0, 1, ((1, 0), (0, 1))), ("strange", 0, 1, ((1, 1), (0, 1))), ("line", (0, 1), ((0, 1, (TOLD,)),))]
        cases = [(2, ((0, 1),), ()), (2, ((0, 1), (1, 0)), ()), (3, ((0, 1),), ()), (3, ((0, 1),), ((1, 2), (0, 1))), (1, (), ())]
        for hands, told, plan in cases:
            leads = oracle_plans.leads(hands, told)
            found = judge_told(hands, told, plan)
            for value in [found] + spread(near(found), 3000) + odd + any_values():
                right = oracle_plans.lining_certificate(hands, plan, value, leads)
                self.assertIs(self.told(told_holds, hands=hands, told=told, plan=plan, thing=value), right, value)

    def test_errors(self):
        wrong = [("hands", BadNumber, WRONG_HANDS), ("told", BadTold, wrong_told(2)), ("plan", BadPlan, wrong_plans(2))]
        right = {"hands": 2, "told": ((0, 1),), "plan": ((0, 1), (1, 0))}
        for function in (judge_told, judge_told_bits, needless_pairs):
            self.refuses_in_order(function, right, wrong)
        for function in (told_holds, told_bits_hold):
            for thing in (("line", (0, 1)), None):
                self.refuses_in_order(function, {**right, "thing": thing}, wrong)


class NeedlessTest(Case):
    def test_needless_pairs(self):
        kinds = set()
        for hands, told, plan in CASES:
            found = self.told(needless_pairs, hands=hands, told=told, plan=plan)
            right = []
            for pair in told if len(told) < 16 else told[::5]:
                others = tuple(other for other in told if other != pair)
                if judge_told(hands, others, plan)[0] == "line":
                    right.append(pair)
            if len(told) < 16:
                self.assertTrue(is_equal(found, tuple(right)), (hands, told, plan))
            else:
                self.assertEqual([pair for pair in found if pair in told[::5]], right)
            self.assertEqual(list(found), sorted(found))
            if judge_told(hands, told, plan)[0] == "strange":
                self.assertEqual(found, ())
            kinds.add((found == (), len(found) == len(told)))
        self.assertEqual(kinds, {(True, True), (True, False), (False, True), (False, False)})

    def test_edges(self):
        self.assertEqual(needless_pairs(1, (), ()), ())
        self.assertEqual(needless_pairs(2, ((0, 1),), ()), ())
        # Either of the two is enough, so each one is needless.
        self.assertEqual(needless_pairs(2, ((0, 1), (1, 0)), ()), ((0, 1), (1, 0)))
        self.assertEqual(needless_pairs(3, ((0, 1), (0, 2), (1, 2)), ()), ((0, 2),))
        self.assertEqual(needless_pairs(3, ((0, 1), (1, 2)), LADDERS[3]), ((0, 1), (1, 2)))
        self.assertEqual(needless_pairs(3, ((0, 1),), ((0, 2),)), ())
        every = tuple(permutations(range(6), 2))
        self.assertEqual(needless_pairs(6, every, ()), every)
        self.assertEqual(needless_pairs(6, every, SIX), every)

    def test_six(self):
        # With all pairs of a line told SIX lines up, and with some of them, too.
        told = tuple((hand, hand + 1) for hand in range(5))
        self.assertEqual(judge_told(6, (), SIX)[0], "strange")
        found = judge_told(6, told, SIX)
        self.assertTrue(oracle_plans.lining_certificate(6, SIX, found, oracle_plans.leads(6, told)))
        self.assertEqual(found[0], "line")


class PlaceTest(Case):
    def test_defined_here(self):
        for name in (
            "are_told", "judge_told_bits", "told_bits_hold", "judge_told", "told_holds", "needless_pairs",
        ):
            self.assertEqual(getattr(module, name).__module__, "bothandall.told")
