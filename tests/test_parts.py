from itertools import product
from random import Random

from bothandall import parts as module
from bothandall.errors import BadNumber, BadPlan
from bothandall.lining import judge_lining
from bothandall.parts import held_parts, is_derivation, is_parts_order, parts_of
from tests import oracle_plans
from tests.anything import any_values, is_equal, is_plain, near
from tests.checking import Case, spread
from tests.samples import CUBE, FLAT, LADDERS, LEANING, SIX, chain, flat, plans_of, some_plan, some_rows
from tests.wrong import WRONG_HANDS, wrong_plans

SAME = ("same",)
# One meeting of two hands: the parts 2 and 3 are both and all of 0 and 1.
ONE = ((0, 1),)
BOTH_IN_ALL = ((0, 0, SAME), (2, 0, ("first", 0)), (2, 3, ("second", 1)))


def plans_with_hands(most):
    return [(hands, plan) for hands in range(1, 7) for plan in plans_of(hands, most, hands + 3)]


def derivations_by_chance():
    """Derivations, each over the parts of a plan, of steps with all kinds of reasons; some of them wrong."""
    chance = Random(4)
    found = []
    for hands, plan in plans_with_hands(16):
        parts, _ = oracle_plans.parts_of(hands, plan)
        steps = []
        for _ in range(60):
            at = len(steps)
            word = chance.choice(("same", "first", "second", "each", "into"))
            many = {"same": 0, "first": 1, "second": 1}.get(word, 2)
            if at or not many:
                reason = (word, *(chance.randrange(at) for _ in range(many)))
                p, q = chance.randrange(len(parts)), chance.randrange(len(parts))
                if word == "same":
                    q = p
                elif word == "first":
                    q = steps[reason[1]][1]
                elif word == "second":
                    p = steps[reason[1]][0]
                step = (p, q, reason)
                # Most of the steps are right ones, so that later ones can be built on them.
                if oracle_plans.is_step(parts, (), tuple(steps) + (step,), at) or chance.random() < 0.002:
                    steps.append(step)
        found.append((hands, plan, tuple(steps)))
    return found


class PartsTest(Case):
    def test_parts(self):
        for hands, plan in plans_with_hands(20):
            parts, (held,) = oracle_plans.parts_of(hands, plan)
            self.assertTrue(is_equal(self.told(parts_of, hands=hands, plan=plan), parts))
            self.assertTrue(is_equal(self.told(held_parts, hands=hands, plan=plan), held))
            self.assertEqual(len(parts), hands + 2 * len(plan))
            self.assertTrue(is_plain(parts_of(hands, plan)))

    def test_edges(self):
        self.assertEqual([parts_of(1, ()), held_parts(1, ())], [(("hand", 0),), (0,)])
        self.assertEqual(held_parts(6, ()), (0, 1, 2, 3, 4, 5))
        self.assertEqual(parts_of(2, ((1, 0),)), (("hand", 0), ("hand", 1), ("both", 1, 0), ("all", 1, 0)))
        self.assertEqual(held_parts(2, ((1, 0),)), (3, 2))
        self.assertEqual(len(parts_of(6, SIX + SIX[:2])), 40)
        self.assertEqual(len(parts_of(2, ONE * 19)), 40)

    def test_errors(self):
        wrong = [("hands", BadNumber, WRONG_HANDS), ("plan", BadPlan, wrong_plans(2))]
        right = {"hands": 2, "plan": ((0, 1), (1, 0))}
        self.refuses_in_order(parts_of, right, wrong)
        self.refuses_in_order(held_parts, right, wrong)
        for thing in ((), BOTH_IN_ALL, None, ((1,),)):
            self.refuses_in_order(is_derivation, {**right, "thing": thing}, wrong)
            self.refuses_in_order(is_parts_order, {**right, "thing": thing}, wrong)


class DerivationTest(Case):
    def test_built_by_chance(self):
        kinds = set()
        for hands, plan, steps in derivations_by_chance():
            parts, _ = oracle_plans.parts_of(hands, plan)
            right = oracle_plans.is_derivation(parts, steps)
            self.assertIs(self.told(is_derivation, hands=hands, plan=plan, thing=steps), right)
            if right:
                kinds |= {reason[0] for _, _, reason in steps}
        self.assertTrue({"same", "first", "second"} <= kinds, kinds)

    def test_returned_ones(self):
        kinds = set()
        for hands, plan in plans_with_hands(16):
            found = judge_lining(hands, plan)
            if found[0] == "line":
                self.assertIs(self.told(is_derivation, hands=hands, plan=plan, thing=found[2]), True)
                kinds |= {reason[0] for _, _, reason in found[2]}
        self.assertEqual(kinds, {"same", "first", "second", "each", "into"})

    def test_each_kind_of_reason(self):
        # Parts: 0, 1, 2 at first; 3, 4 both and all of 0 and 1; 5, 6 both and all of 3 and 2.
        plan = ((0, 1), (0, 2))
        begun = ((0, 0, SAME), (1, 1, SAME), (3, 0, ("first", 0)), (3, 1, ("first", 1)), (0, 4, ("second", 0)))
        begun += ((1, 4, ("second", 1)), (3, 4, ("second", 2)))
        parts, _ = oracle_plans.parts_of(3, plan)
        self.assertIs(is_derivation(3, plan, begun), True)
        kinds = set()
        for p, q in product(range(-1, 8), repeat=2):
            for word in ("same", "first", "second", "each", "into", "told", "Same", ""):
                for earlier in [()] + [(s,) for s in range(-1, 8)] + list(product(range(-1, 8), repeat=2)):
                    steps = begun + ((p, q, (word, *earlier)),)
                    right = oracle_plans.is_derivation(parts, steps)
                    self.assertIs(is_derivation(3, plan, steps), right, steps[-1])
                    if right:
                        kinds.add((word, p, q))
        self.assertTrue({("each", 4, 4), ("into", 3, 3), ("first", 3, 4), ("second", 3, 4)} <= kinds, kinds)

    def test_the_order_of_two_steps(self):
        steps = ((0, 0, SAME), (1, 1, SAME), (0, 3, ("second", 0)), (1, 3, ("second", 1)))
        for s, t in product(range(-1, 6), repeat=2):
            self.assertIs(is_derivation(2, ONE, steps + ((3, 3, ("each", s, t)),)), (s, t) == (2, 3))
        steps = ((0, 0, SAME), (1, 1, SAME), (2, 0, ("first", 0)), (2, 1, ("first", 1)))
        for s, t in product(range(-1, 6), repeat=2):
            self.assertIs(is_derivation(2, ONE, steps + ((2, 2, ("into", s, t)),)), (s, t) == (2, 3))

    def test_later_steps(self):
        self.assertIs(is_derivation(2, ONE, ((2, 0, ("first", 1)), (0, 0, SAME))), False)
        self.assertIs(is_derivation(2, ONE, ((2, 0, ("first", 0)),)), False)
        self.assertIs(is_derivation(2, ONE, ((0, 0, SAME), (2, 0, ("first", 1)))), False)
        self.assertIs(is_derivation(2, ONE, ((0, 0, SAME), (2, 0, ("first", -1)))), False)
        self.assertIs(is_derivation(2, ONE, ((0, 0, SAME), (2, 0, ("first", 2)), (0, 0, SAME))), False)

    def test_numbers_of_steps(self):
        step = ((0, 0, SAME),)
        for many in (0, 1, 2, 1599, 1600, 1601, 1602, 3000):
            self.assertIs(is_derivation(1, (), step * many), many <= 1600)
        steps = BOTH_IN_ALL + ((2, 3, ("second", 1)),) * 1597
        self.assertIs(is_derivation(2, ONE, steps), True)
        self.assertIs(is_derivation(2, ONE, steps + step), False)

    def test_same_is_the_same_number(self):
        # The parts 4 and 5 are equal to 2 and 3 in all houses, but they are other parts.
        for p, q in product(range(6), repeat=2):
            self.assertIs(is_derivation(2, ONE * 2, ((p, q, SAME),)), p == q)

    def test_no_told_steps(self):
        self.assertIs(is_derivation(2, (), ((0, 0, ("told",)),)), False)
        self.assertIs(is_derivation(2, (), ((0, 1, ("told",)),)), False)

    def test_any_value(self):
        odd = [((0, 0, ("same", 0)),), ((True, 1, SAME),), ((False, 0, SAME),), ((0, 0, ["same"]),), ([0, 0, SAME],)]
        odd += [((0, 0, SAME, 0),), ((0, 0),), ((0, 0, ()),), ((0, 0, "same"),), ((0, 0, (SAME,)),), [(0, 0, SAME)], (0, 0, SAME)]
        odd += [BOTH_IN_ALL[:1] + ((2, 0, ("first", False)),), BOTH_IN_ALL[:1] + ((2, 0, ("first", 0, 0)),), ((4, 4, SAME),)]
        odd += [BOTH_IN_ALL[:1] + ((2, 0, ("first",)),), BOTH_IN_ALL[:1] + ((2, 0, ("first", (0,))),), ((-1, -1, SAME),)]
        odd += [((0, 0, (None,)),), ((0, 0, ([],)),), ((0, 0, ({},)),), ((0, 0, (0,)),), ((0, 0, SAME), None), ((0, 0, SAME), ())]
        parts, _ = oracle_plans.parts_of(2, ONE)
        for steps in (BOTH_IN_ALL, (), ((0, 0, SAME),), judge_lining(2, ((0, 1), (1, 0)))[2]):
            for value in [steps] + near(steps) + odd + any_values():
                found = self.told(is_derivation, hands=2, plan=ONE, thing=value)
                self.assertIs(found, oracle_plans.is_derivation(parts, value), value)
        plan = LADDERS[3]
        parts, _ = oracle_plans.parts_of(3, plan)
        steps = judge_lining(3, plan)[2]
        for value in spread(near(steps), 3000):
            self.assertIs(is_derivation(3, plan, value), oracle_plans.is_derivation(parts, value), value)


def orders_of_parts():
    """Triples of a number of hands, a plan and an order of its parts, of rows of houses."""
    found = []
    for seed, (hands, plan) in enumerate(plans_with_hands(17)):
        for house in (FLAT, LEANING, CUBE, flat(9), chain(6)):
            for row in some_rows(house, hands, 2, seed):
                found.append((hands, plan, oracle_plans.order_of_row(house, row, plan)))
    return found


ORDERS = orders_of_parts()


def with_bit(table, p, q):
    row = table[p][:q] + (1 - table[p][q],) + table[p][q + 1:]
    return table[:p] + (row,) + table[p + 1:]


class OrderTest(Case):
    def test_orders_of_rows(self):
        for hands, plan, table in ORDERS:
            self.assertIs(self.told(is_parts_order, hands=hands, plan=plan, thing=table), True)
        self.assertEqual(max(len(table) for _, _, table in ORDERS), 40)

    def test_one_bit_another_one(self):
        kinds = set()
        chance = Random(5)
        for hands, plan, table in chance.sample(ORDERS, 250):
            parts, _ = oracle_plans.parts_of(hands, plan)
            for _ in range(6):
                other = with_bit(table, chance.randrange(len(table)), chance.randrange(len(table)))
                found = is_parts_order(hands, plan, other)
                self.assertIs(found, oracle_plans.is_parts_order(parts, other))
                kinds.add(found)
        self.assertIn(False, kinds)

    def test_all_small_tables(self):
        kinds = {}
        for bits in product((0, 1), repeat=16):
            table = tuple(bits[4 * p:4 * p + 4] for p in range(4))
            for plan in (ONE, ((1, 0),)):
                found = is_parts_order(2, plan, table)
                self.assertIs(found, oracle_plans.is_parts_order(oracle_plans.parts_of(2, plan)[0], table), table)
                kinds[found] = kinds.get(found, 0) + 1
        # The two hands are strange, equal, or one is within the other one.
        self.assertEqual(kinds[True], 8)
        for bits in product((0, 1), repeat=9):
            table = tuple(bits[3 * p:3 * p + 3] for p in range(3))
            self.assertIs(is_parts_order(3, (), table), oracle_plans.is_parts_order(oracle_plans.parts_of(3, ())[0], table))

    def test_parts_within_one_another_both_ways(self):
        ones = ((1,) * 4,) * 4
        self.assertIs(is_parts_order(2, ONE, ones), True)
        self.assertIs(is_parts_order(6, (), ((1,) * 6,) * 6), True)
        self.assertIs(is_parts_order(2, ONE, ((1, 1, 1, 1), (0, 1, 0, 1), (1, 1, 1, 1), (0, 1, 0, 1))), True)
        self.assertIs(is_parts_order(1, (), ((1,),)), True)
        self.assertIs(is_parts_order(1, (), ((0,),)), False)
        # Without the pair of the first hand and all it is no order.
        self.assertIs(is_parts_order(2, ONE, ((1, 0, 0, 1), (0, 1, 0, 1), (1, 1, 1, 1), (0, 0, 0, 1))), True)
        self.assertIs(is_parts_order(2, ONE, ((1, 0, 0, 0), (0, 1, 0, 1), (1, 1, 1, 1), (0, 0, 0, 1))), False)

    def test_of_other_plans(self):
        for hands, plan, table in spread(ORDERS, 60):
            for other in (plan[:-1], plan + ((0, 1),) if hands > 1 else (), plan[::-1], plan[1:]):
                if len(other) <= 17:
                    parts, _ = oracle_plans.parts_of(hands, other)
                    self.assertIs(is_parts_order(hands, other, table), oracle_plans.is_parts_order(parts, table))

    def test_any_value(self):
        cases = [(1, (), ((1,),)), (2, ONE, ((1, 0, 0, 1), (0, 1, 0, 1), (1, 1, 1, 1), (0, 0, 0, 1))), (2, (), ((1, 0), (0, 1)))]
        cases += [(3, LADDERS[3], oracle_plans.order_of_row(FLAT, (1, 2, 3), LADDERS[3]))]
        for hands, plan, table in cases:
            parts, _ = oracle_plans.parts_of(hands, plan)
            odd = [tuple(list(row) for row in table), list(table), table + table[:1], tuple(row + (1,) for row in table)]
            odd += [tuple(tuple(bit == 1 for bit in row) for row in table), (table,), tuple(row[:-1] for row in table)]
            for value in [table] + spread(near(table), 3000) + odd + any_values():
                found = self.told(is_parts_order, hands=hands, plan=plan, thing=value)
                self.assertIs(found, oracle_plans.is_parts_order(parts, value), (hands, plan, value))


class PlanTest(Case):
    def test_plans_of_20_meetings(self):
        for hands in (2, 3):
            plan = some_plan(hands, 20, 3)
            self.assertTrue(is_equal(parts_of(hands, plan), oracle_plans.parts_of(hands, plan)[0]))
            self.assertEqual(held_parts(hands, plan), oracle_plans.parts_of(hands, plan)[1][0])


class PlaceTest(Case):
    def test_defined_here(self):
        for name in ("parts_of", "held_parts", "is_derivation", "is_parts_order"):
            self.assertEqual(getattr(module, name).__module__, "bothandall.parts")
