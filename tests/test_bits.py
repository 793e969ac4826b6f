from itertools import permutations, product

from bothandall import bits as module
from bothandall.bits import bits_hold, idle_meetings, judge_bits, judge_same_bits, least_plan, same_bits_hold
from bothandall.errors import BadNumber, BadPlan
from bothandall.rows import is_at_rest
from tests import oracle_plans, oracle_rows
from tests.anything import any_values, is_equal, is_plain, near
from tests.checking import Case, spread
from tests.samples import (
    FLAT, LADDERS, SIX, STRAIGHT, TWO, pairs_house, plans_of, renamed_plan, some_plan, some_rows, turned_plan,
)
from tests.wrong import WRONG_HANDS, odd_plans, wrong_plans

FEWEST = (0, 1, 3, 5, 9, 12)


def plans_with_hands(most=20):
    return [(hands, plan) for hands in range(1, 7) for plan in plans_of(hands, most, hands)]


class BitsTest(Case):
    def test_judged_rightly(self):
        kinds = set()
        for hands, plan in plans_with_hands():
            found = self.told(judge_bits, hands=hands, plan=plan)
            self.assertTrue(is_plain(found))
            self.assertTrue(oracle_plans.bits_certificate(hands, plan, found), (hands, plan, found))
            self.assertIs(self.told(bits_hold, hands=hands, plan=plan, thing=found), True)
            kinds.add((hands, found[0]))
        self.assertEqual(len(kinds), 11)

    def test_all_short_plans(self):
        for hands, most in ((2, 4), (3, 3), (4, 2)):
            for many in range(most + 1):
                for plan in product(permutations(range(hands), 2), repeat=many):
                    found = judge_bits(hands, plan)
                    self.assertTrue(oracle_plans.bits_certificate(hands, plan, found), (hands, plan, found))

    def test_six(self):
        self.assertEqual(judge_bits(6, SIX), ("line", (0, 1, 2, 3, 4, 5)))
        # Three of its meetings are idle, and without one of some others it does not line up.
        kinds = []
        for at in range(len(SIX)):
            plan = SIX[:at] + SIX[at + 1:]
            found = judge_bits(6, plan)
            self.assertTrue(oracle_plans.bits_certificate(6, plan, found))
            kinds.append(found[0])
        self.assertEqual([kinds[at] for at in (8, 10, 11)], ["line"] * 3)
        self.assertIn("strange", kinds)
        for names in spread(list(permutations(range(6))), 30):
            self.assertEqual(judge_bits(6, renamed_plan(SIX, names)), ("line", names))

    def test_the_row_of_two_bits(self):
        # What is strange stands behind the plan in the house of two bits beside one another.
        house = pairs_house(TWO, TWO)
        for hands, plan in plans_with_hands():
            found = judge_bits(hands, plan)
            if found[0] == "strange":
                row = tuple(2 * a + b for a, b in zip(found[3], found[4]))
                self.assertIs(is_at_rest(house, oracle_rows.behind(house, row, plan)), False)
            else:
                for one in STRAIGHT[:12]:
                    for row in some_rows(one, hands, 2, hands):
                        lots = oracle_rows.behind(one, row, plan)
                        self.assertTrue(oracle_rows.is_line(one, tuple(lots[hand] for hand in found[1])))

    def test_all_orders(self):
        for hands, plan in ((3, LADDERS[3]), (3, ((2, 1), (2, 0), (1, 0))), (3, ((0, 1), (1, 2))), (2, ()), (1, ())):
            for order in product(range(-1, hands + 1), repeat=hands):
                right = oracle_plans.bits_certificate(hands, plan, ("line", order))
                self.assertIs(bits_hold(hands, plan, ("line", order)), right, (plan, order))

    def test_all_strange_ones(self):
        for hands, plan in ((2, ()), (2, ((1, 0),)), (3, ((0, 1), (1, 2))), (3, ((2, 0),)), (3, LADDERS[3])):
            rows = oracle_plans.rows_of_bits(hands)
            for i, j in product(range(-1, hands + 1), repeat=2):
                for one, other in product(rows, repeat=2):
                    thing = ("strange", i, j, one, other)
                    right = oracle_plans.bits_certificate(hands, plan, thing)
                    self.assertIs(bits_hold(hands, plan, thing), right, (plan, thing))

    def test_any_value(self):
        odd = [("line", (True, False)), ("line", (0, 0)), ("line", (0,)), ("line", [0, 1]), ("line", (0, 1, 2)), ("line", ())]
        odd += [("strange", 0, 1, (1, 0), (0, 1)), ("strange", 1, 0, (0, 1), (1, 0)), ("strange", 0, 1, (0, 1), (1, 0))]
        odd += [("strange", False, True, (1, 0), (0, 1)), ("strange", 0, 1, (True, 0), (0, 1)), ("strange", 0, 1, [1, 0], (0, 1))]
        odd += [("strange", 0, 1, (1, 0), (False, 1)), ("strange", 0, 1, (1, 0, 0), (0, 1, 0)), ("strange", 0, 1, (2, 0), (0, 1))]
        odd += [("strange", (0, 1), (1, 0), (0, 1)), ("strange", 0, 1, ((1, 0), (0, 1))), ("strange", 0, 2, (1, 0), (0, 1))]
        odd += [("strange", 0, 1, {}, []), ("strange", 0, 1, (1, 0), None), ("strange", 0, 1, "10", "01"), ("strange", 0, 0, (1, 0), (0, 1))]
        cases = [(2, ()), (2, ((1, 0),)), (3, ((0, 1), (1, 2))), (3, LADDERS[3]), (1, ()), (6, SIX), (6, SIX[:-1])]
        for hands, plan in cases:
            certificate = judge_bits(hands, plan)
            for value in [certificate] + near(certificate) + odd + any_values():
                found = self.told(bits_hold, hands=hands, plan=plan, thing=value)
                self.assertIs(found, oracle_plans.bits_certificate(hands, plan, value), (hands, plan, value))

    def test_errors(self):
        wrong = [("hands", BadNumber, WRONG_HANDS), ("plan", BadPlan, wrong_plans(2))]
        right = {"hands": 2, "plan": ((0, 1), (1, 0))}
        self.refuses_in_order(judge_bits, right, wrong)
        self.refuses_in_order(idle_meetings, right, wrong)
        for thing in (("line", (0, 1)), None):
            self.refuses_in_order(bits_hold, {**right, "thing": thing}, wrong)

    def test_plans_of_other_numbers_of_hands(self):
        for hands in range(1, 7):
            for plan in odd_plans(hands) + [((0, hands),), ((hands, 0),), ((hands, hands + 1),), ((hands - 1, hands - 1),)]:
                for function in (judge_bits, idle_meetings):
                    if oracle_rows.is_plan(hands, plan):
                        function(hands, plan)
                    else:
                        self.refuses(BadPlan, plan, function, hands=hands, plan=plan)


def pairs_of_plans(most=20):
    """Triples of a number of hands and two plans, some of which leave the same."""
    found = []
    for hands in range(1, 7):
        plans = plans_of(hands, most, hands + 9)
        found += [(hands, one, one) for one in plans]
        found += [(hands, one, ()) for one in plans] + [(hands, (), one) for one in plans]
        found += [(hands, one, other) for one, other in zip(plans, plans[1:])]
        if hands > 1:
            ladder = LADDERS[hands]
            turned = turned_plan(ladder)
            found += [(hands, ladder, turned + ladder), (hands, ladder + ladder[-1:], ladder)]
            found += [(hands, ladder, ladder[1:]), (hands, ((0, 1),), ((1, 0), (0, 1))), (hands, ladder, ladder[::-1])]
        if hands > 3:
            found += [(hands, ((0, 1), (2, 3)), ((2, 3), (0, 1))), (hands, ((0, 1), (2, 3)), ((3, 2), (0, 1)))]
    return [(hands, one, other) for hands, one, other in found if len(one) <= most and len(other) <= most]


class SameBitsTest(Case):
    def test_judged_rightly(self):
        kinds = set()
        for hands, one, other in pairs_of_plans():
            found = self.told(judge_same_bits, hands=hands, one=one, other=other)
            self.assertTrue(is_plain(found))
            self.assertTrue(oracle_plans.same_bits_certificate(hands, one, other, found), (hands, one, other, found))
            self.assertIs(self.told(same_bits_hold, hands=hands, one=one, other=other, thing=found), True)
            self.assertIs(same_bits_hold(hands, one, other, ("same",)), found == ("same",))
            kinds.add((hands, found[0]))
        self.assertEqual(len(kinds), 11)

    def test_all_short_plans(self):
        plans = [plan for many in range(3) for plan in product(permutations(range(3), 2), repeat=many)]
        for one, other in product(plans, repeat=2):
            found = judge_same_bits(3, one, other)
            self.assertTrue(oracle_plans.same_bits_certificate(3, one, other, found), (one, other, found))

    def test_all_rows(self):
        for hands, one, other in ((2, ((0, 1),), ()), (3, ((0, 1), (1, 2)), ((1, 2),)), (3, LADDERS[3], LADDERS[3][::-1])):
            for bits in product((-1, 0, 1, 2), repeat=hands):
                right = oracle_plans.same_bits_certificate(hands, one, other, ("row", bits))
                self.assertIs(same_bits_hold(hands, one, other, ("row", bits)), right)

    def test_any_value(self):
        odd = [("row", (True, 0)), ("row", (1, False)), ("row", [1, 0]), ("row", (1, 0)), ("row", (1, 0, 0)), ("row", (1,))]
        odd += [("row", 1, 0), ("row", "10"), ("row", ()), ("same", ()), "same", ["same"], ("row", (2, 0)), ("row", (1, None))]
        for hands, one, other in ((2, ((0, 1),), ()), (2, (), ((0, 1),)), (2, ((0, 1),), ((1, 0), (0, 1))), (1, (), ()), (6, SIX, SIX[1:])):
            for certificate in (judge_same_bits(hands, one, other), ("row", (1, 0)), ("same",)):
                for value in [certificate] + near(certificate) + odd + any_values():
                    found = self.told(same_bits_hold, hands=hands, one=one, other=other, thing=value)
                    right = oracle_plans.same_bits_certificate(hands, one, other, value)
                    self.assertIs(found, right, (hands, one, other, value))

    def test_errors(self):
        right = {"hands": 2, "one": ((0, 1),), "other": ((1, 0),)}
        plans = wrong_plans(2)
        wrong = [("hands", BadNumber, WRONG_HANDS), ("one", BadPlan, plans), ("other", BadPlan, plans[::-1])]
        self.refuses_in_order(judge_same_bits, right, wrong)
        for thing in (("same",), ("row", (1, 0)), None):
            self.refuses_in_order(same_bits_hold, {**right, "thing": thing}, wrong)


class IdleTest(Case):
    def test_idle_meetings(self):
        for hands, plan in plans_with_hands():
            found = self.told(idle_meetings, hands=hands, plan=plan)
            self.assertTrue(is_equal(found, oracle_plans.idle_meetings(hands, plan)), (hands, plan))
            for at in found:
                self.assertEqual(judge_same_bits(hands, plan, plan[:at] + plan[at + 1:]), ("same",))

    def test_all_short_plans(self):
        for many in range(4):
            for plan in product(permutations(range(3), 2), repeat=many):
                self.assertEqual(idle_meetings(3, plan), oracle_plans.idle_meetings(3, plan), plan)

    def test_where_they_stand(self):
        ladder = LADDERS[4]
        for hands in range(1, 7):
            self.assertEqual(idle_meetings(hands, ()), ())
            self.assertEqual(idle_meetings(hands, LADDERS[hands]), ())
            self.assertEqual(idle_meetings(hands, least_plan(hands)), ())
        self.assertEqual(idle_meetings(2, ((0, 1),) * 20), tuple(range(1, 20)))
        self.assertEqual(idle_meetings(2, ((0, 1), (1, 0), (0, 1))), ())
        self.assertEqual(idle_meetings(4, ladder + ((0, 3), (1, 2))), (6, 7))
        self.assertEqual(idle_meetings(4, ladder[:1] * 2 + ladder[1:]), (1,))
        self.assertEqual(idle_meetings(4, ((0, 1), (2, 3), (0, 1), (0, 2), (2, 3))), (2,))
        self.assertEqual(idle_meetings(4, ((0, 1), (2, 3), (0, 2), (1, 3), (0, 3), (1, 2))), (4,))
        # Behind SIX all meetings of a hand with one behind it in its order are idle.
        every = tuple((i, j) for i in range(6) for j in range(i + 1, 6))
        for meeting in every:
            self.assertEqual(idle_meetings(6, SIX + (meeting,)), (8, 10, 11, 15))
            self.assertEqual(idle_meetings(6, SIX + (meeting[::-1],)), (8, 10, 11))


class LeastTest(Case):
    def test_least_plans(self):
        for hands in range(1, 7):
            plan = self.told(least_plan, hands=hands)
            self.assertTrue(is_plain(plan))
            self.assertTrue(oracle_rows.is_plan(hands, plan))
            self.assertEqual(len(plan), FEWEST[hands - 1])
            self.assertEqual(judge_bits(hands, plan)[0], "line")
            for order in permutations(range(hands)):
                if bits_hold(hands, plan, ("line", order)):
                    break
            self.assertTrue(oracle_plans.bits_certificate(hands, plan, ("line", order)))

    def test_no_plan_has_fewer(self):
        for hands in (2, 3, 4):
            meetings = list(permutations(range(hands), 2))
            states = {tuple(zip(*oracle_plans.rows_of_bits(hands)))}
            for many in range(FEWEST[hands - 1]):
                self.assertFalse(any(self.is_line(state) for state in states), (hands, many))
                states = {self.met(state, i, j) for state in states for i, j in meetings}
            self.assertTrue(any(self.is_line(state) for state in states))

    def is_line(self, state):
        state = sorted(state, key=sum)
        return all(a <= b for one, other in zip(state, state[1:]) for a, b in zip(one, other))

    def met(self, state, i, j):
        held = list(state)
        held[i] = tuple(map(min, state[i], state[j]))
        held[j] = tuple(map(max, state[i], state[j]))
        return tuple(held)

    def test_errors(self):
        self.refuses_in_order(least_plan, {"hands": 3}, [("hands", BadNumber, WRONG_HANDS)])


class HousesTest(Case):
    def test_same_plans_in_straight_houses(self):
        for hands, one, other in pairs_of_plans():
            if judge_same_bits(hands, one, other) == ("same",):
                for house in STRAIGHT[:14]:
                    for row in some_rows(house, hands, 2, 5):
                        behind = oracle_rows.behind
                        self.assertEqual(behind(house, row, one), behind(house, row, other))

    def test_not_in_all_houses(self):
        # In straight houses these leave the same, from a row of flat lots they do not.
        one, other = SIX + ((1, 0), (0, 1)), SIX
        self.assertEqual(judge_same_bits(6, one, other), ("same",))
        self.assertEqual(judge_same_bits(6, SIX, LADDERS[6]), ("same",))
        rows = some_rows(FLAT, 6, 2000, 1)
        self.assertTrue(any(oracle_rows.behind(FLAT, row, SIX) != oracle_rows.behind(FLAT, row, LADDERS[6]) for row in rows))

    def test_random_plans(self):
        for seed in range(60):
            hands = 2 + seed % 5
            plan = some_plan(hands, 20 - seed % 7, seed)
            self.assertTrue(oracle_plans.bits_certificate(hands, plan, judge_bits(hands, plan)))
            self.assertEqual(idle_meetings(hands, plan), oracle_plans.idle_meetings(hands, plan))


class PlaceTest(Case):
    def test_defined_here(self):
        for name in (
            "judge_bits", "bits_hold", "judge_same_bits", "same_bits_hold", "idle_meetings", "least_plan",
        ):
            self.assertEqual(getattr(module, name).__module__, "bothandall.bits")
