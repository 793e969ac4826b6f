from itertools import combinations, product
from random import Random

from bothandall import rules as module
from bothandall.errors import BadFacts, BadNumber, BadRules
from bothandall.rules import (
    are_rules, closed_lots, closure, fewer_rules, follows_holds, house_of, judge_follows, needless_rules, say_same,
)
from tests import oracle
from tests.anything import any_values, is_equal, is_plain, near
from tests.checking import Case
from tests.samples import RULES, rules_of_all_sizes, rules_within_the_limit

WRONG_M = [value for value in any_values() + near(3) if not (type(value) is int and 1 <= value <= 6)]
EIGHT = tuple(((k,), 5) for k in range(5)) + (((0, 1), 2), ((), 0), ((3, 4), 1))
ODD_RULES = [
    (((0, 1), True),), (((False, 1), 2),), (((0, True), 2),), ([(0, 1), 2],), [((0, 1), 2)], (([0, 1], 2),),
    (((1, 0), 2),), (((0, 0), 2),), (((0, 1), 1),), (((0, 1), 3),), (((0, 3), 1),), (((0, 1), -1),), (((-1, 1), 0),),
    (((0, 1), 2, 0),), (((0, 1),),), (((0, 1), (2,)),), ((0, 1, 2),), ((0, 1), 2), ((2, (0, 1)),), (((0, 1), "2"),),
    (((0, 1), 2), None), (((0, 1), 2), ()), (((0, 1), 2),) * 9, ((),), (((), 0),) * 9, ((0, 1),), ((0, 0), 1),
]


def wrong_facts(m, lot=(0, 2)):
    odd = [(0, 0), (1, 0), (m,), (0, m), (-1,), (-1, 0), (True,), (False, 1), (0, True), [0], ((0,),), ("0",), (None,)]
    return [value for value in odd + any_values() + near(lot) if not oracle.is_facts(m, value)]


def wrong_rules(m, rules=RULES):
    return [value for value in ODD_RULES + any_values() + near(rules) if not oracle.is_rules(m, value)]


def wrong_fact(m):
    return [value for value in any_values() + near(m - 1) if not (type(value) is int and 0 <= value < m)]


class AreRulesTest(Case):
    def test_any_value(self):
        for m in (1, 2, 3, 6):
            for value in ODD_RULES + any_values() + near(RULES) + near((((), 0),)) + near(EIGHT[:3]):
                found = self.told(are_rules, m=m, thing=value)
                self.assertIs(found, oracle.is_rules(m, value), value)

    def test_numbers_of_rules(self):
        for many in range(12):
            self.assertIs(are_rules(1, (((), 0),) * many), many <= 8)
            self.assertIs(are_rules(6, (EIGHT + EIGHT)[:many]), many <= 8)

    def test_right_ones(self):
        for m, rules in rules_of_all_sizes():
            self.assertIs(are_rules(m, rules), True)
            self.assertIs(are_rules(6, rules), True)

    def test_all_rules_of_few_facts(self):
        for m in (1, 2, 3):
            lots = [lot for many in range(4) for lot in product(range(-1, 4), repeat=many)]
            for lot, fact in product(lots, range(-1, 4)):
                rules = ((lot, fact),)
                self.assertIs(are_rules(m, rules), oracle.is_rules(m, rules), (m, rules))

    def test_bad_number(self):
        for m in WRONG_M:
            for value in ((), RULES, None, [1]):
                self.refuses(BadNumber, m, are_rules, m=m, thing=value)


class ClosureTest(Case):
    def test_all_lots(self):
        for m, rules in rules_of_all_sizes():
            for lot in oracle.lots_of_facts(m):
                found = self.told(closure, m=m, rules=rules, lot=lot)
                self.assertTrue(is_equal(found, oracle.closure(m, rules, lot)))

    def test_edges(self):
        self.assertEqual(closure(1, (), ()), ())
        self.assertEqual(closure(1, (((), 0),), ()), (0,))
        self.assertEqual(closure(6, (), (0, 5)), (0, 5))
        steps = tuple(((k + 1,), k) for k in range(5))
        self.assertEqual(closure(6, steps, (5,)), (0, 1, 2, 3, 4, 5))

    def test_errors(self):
        self.refuses_in_order(closure, {"m": 3, "rules": RULES, "lot": (0, 2)}, [
            ("m", BadNumber, WRONG_M), ("rules", BadRules, wrong_rules(3)), ("lot", BadFacts, wrong_facts(3)),
        ])

    def test_lots_of_other_numbers_of_facts(self):
        for m in range(1, 6):
            self.refuses(BadFacts, (m,), closure, m=m, rules=(), lot=(m,))
            self.refuses(BadRules, (((), m),), closure, m=m, rules=(((), m),), lot=(m,))
            self.assertEqual(closure(m + 1, (((), m),), (m,)), (m,))


class ClosedLotsTest(Case):
    def test_closed_lots(self):
        for m, rules in rules_within_the_limit():
            found = self.told(closed_lots, m=m, rules=rules)
            self.assertTrue(is_equal(found, oracle.closed_lots(m, rules)))
            self.assertEqual(list(found), sorted(found))

    def test_house_of(self):
        for m, rules in rules_within_the_limit():
            found = self.told(house_of, m=m, rules=rules)
            self.assertTrue(is_equal(found, oracle.house_of(m, rules)))

    def test_rules_with_24_closed_lots(self):
        for m, rules in ((5, (((0,), 1),)), (6, (((4,), 3), ((0,), 1), ((1,), 2)))):
            self.assertEqual(len(oracle.closed_lots(m, rules)), 24)
            self.assertTrue(is_equal(closed_lots(m, rules), oracle.closed_lots(m, rules)))
            self.assertTrue(is_equal(house_of(m, rules), oracle.house_of(m, rules)))
            self.assertEqual(sorted(fewer_rules(m, rules + rules)), sorted(rules))

    def test_all_pairs_of_rules_of_two_facts(self):
        rules = [(lot, fact) for lot in oracle.lots_of_facts(2) for fact in (0, 1) if fact not in lot]
        for many in (0, 1, 2, 3):
            for some in product(rules, repeat=many):
                self.assertEqual(closed_lots(2, some), oracle.closed_lots(2, some))
                self.assertEqual(house_of(2, some), oracle.house_of(2, some))

    def test_errors(self):
        for function in (closed_lots, house_of, needless_rules, fewer_rules):
            self.refuses_in_order(function, {"m": 3, "rules": RULES}, [
                ("m", BadNumber, WRONG_M), ("rules", BadRules, wrong_rules(3)),
            ])


class FollowsTest(Case):
    def test_judged_rightly(self):
        for m, rules in rules_of_all_sizes():
            for lot in oracle.lots_of_facts(m)[::3] + [()]:
                for fact in range(m):
                    found = self.told(judge_follows, m=m, rules=rules, lot=lot, fact=fact)
                    self.assertTrue(is_plain(found))
                    self.assertTrue(oracle.follows(m, rules, lot, fact, found), (m, rules, lot, fact, found))
                    self.assertIs(follows_holds(m, rules, lot, fact, found), True)

    def test_right_ones_of_others(self):
        # Needless steps, steps again, and steps that put in what is there already.
        rules = (((0,), 1), ((1,), 2), ((), 3), ((0,), 1))
        for steps in ((0, 1), (0, 0, 1), (2, 0, 2, 1, 1, 2), (3, 1), (0, 3, 1), (0, 1) * 900):
            self.assertIs(follows_holds(4, rules, (0,), 2, ("steps", steps)), True)
        for steps in ((), (0,), (1,), (1, 0), (0, 2), (0, 1, 4), (-3, 1), (2, 1)):
            self.assertIs(follows_holds(4, rules, (0,), 2, ("steps", steps)), False)
        self.assertIs(follows_holds(4, rules, (0,), 0, ("steps", ())), True)
        self.assertIs(follows_holds(4, rules, (0,), 0, ("steps", (2,))), True)
        self.assertIs(follows_holds(4, rules, (0,), 0, ("steps", (1,))), False)
        for lot, right in (((2, 3), True), ((1, 2, 3), True), ((3,), False), ((2,), False), ((0, 1, 2, 3), False)):
            self.assertIs(follows_holds(4, rules, (2,), 0, ("closed", lot)), right)

    def test_all_short_certificates(self):
        chance = Random(5)
        for m, rules in chance.sample([pair for pair in rules_of_all_sizes() if pair[0] <= 4], 60):
            for _ in range(6):
                lot = chance.choice(oracle.lots_of_facts(m))
                fact = chance.randrange(m)
                told = [("closed", other) for other in oracle.lots_of_facts(m)]
                for many in range(3):
                    told += [("steps", steps) for steps in product(range(len(rules) + 1), repeat=many)]
                for thing in told:
                    right = oracle.follows(m, rules, lot, fact, thing)
                    self.assertIs(follows_holds(m, rules, lot, fact, thing), right, (m, rules, lot, fact, thing))

    def test_any_value(self):
        cases = [
            (3, RULES, (0, 1), 2, ("steps", (0,))), (3, RULES, (2,), 1, ("steps", (1, 2))),
            (3, RULES, (0,), 1, ("closed", (0,))), (2, (((0,), 1),), (), 0, ("closed", (1,))),
            (3, RULES, (0, 1), 1, ("steps", ())), (2, (((), 1), ((1,), 0)), (), 0, ("steps", (0, 1))),
        ]
        swapped = [((), "steps"), ("steps",), ("steps", (0,), ()), ("closed", ("steps", (0,))), ("closed", [0])]
        for m, rules, lot, fact, certificate in cases:
            self.assertTrue(oracle.follows(m, rules, lot, fact, certificate))
            for value in [certificate] + near(certificate) + any_values() + swapped:
                found = self.told(follows_holds, m=m, rules=rules, lot=lot, fact=fact, thing=value)
                self.assertIs(found, oracle.follows(m, rules, lot, fact, value), (value, certificate))

    def test_just_one_kind(self):
        for m, rules in rules_of_all_sizes()[::5]:
            for lot, fact in product(oracle.lots_of_facts(m)[::5], range(m)):
                kind = judge_follows(m, rules, lot, fact)[0]
                self.assertEqual(kind == "steps", fact in oracle.closure(m, rules, lot))
                if kind == "steps":
                    for other in oracle.closed_lots(m, rules):
                        self.assertIs(follows_holds(m, rules, lot, fact, ("closed", other)), False)

    def test_errors(self):
        right = {"m": 3, "rules": RULES, "lot": (0, 2), "fact": 1}
        wrong = [
            ("m", BadNumber, WRONG_M), ("rules", BadRules, wrong_rules(3)), ("lot", BadFacts, wrong_facts(3)),
            ("fact", BadNumber, wrong_fact(3)),
        ]
        self.refuses_in_order(judge_follows, right, wrong)
        for thing in (("steps", ()), ("closed", (0,)), None, [()]):
            self.refuses_in_order(follows_holds, {**right, "thing": thing}, wrong)


class SaySameTest(Case):
    def test_pairs(self):
        chance = Random(9)
        by_facts = {m: [rules for many, rules in rules_of_all_sizes() if many == m] for m in range(1, 7)}
        for m, some in by_facts.items():
            for _ in range(60):
                one, other = chance.choice(some), chance.choice(some)
                if chance.random() < 0.5:
                    other = tuple(chance.sample(one, len(one)))
                right = oracle.closed_lots(m, one) == oracle.closed_lots(m, other)
                self.assertIs(self.told(say_same, m=m, rules=one, others=other), right)
                self.assertIs(say_same(m, other, one), right)

    def test_all_pairs_of_two_facts(self):
        rules = [(lot, fact) for lot in oracle.lots_of_facts(2) for fact in (0, 1) if fact not in lot]
        some = [one for many in range(3) for one in combinations(rules, many)]
        for one, other in product(some, repeat=2):
            right = oracle.closed_lots(2, one) == oracle.closed_lots(2, other)
            self.assertIs(say_same(2, one, other), right)

    def test_edges(self):
        self.assertIs(say_same(6, (), ()), True)
        self.assertIs(say_same(1, (), (((), 0),)), False)
        self.assertIs(say_same(1, (((), 0),) * 8, (((), 0),)), True)
        self.assertIs(say_same(3, (((0,), 1), ((1,), 2)), (((0,), 1), ((1,), 2), ((0,), 2))), True)

    def test_errors(self):
        self.refuses_in_order(say_same, {"m": 3, "rules": RULES, "others": ()}, [
            ("m", BadNumber, WRONG_M), ("rules", BadRules, wrong_rules(3)),
            ("others", BadRules, wrong_rules(3, RULES[::-1])),
        ])


class NeedlessTest(Case):
    def test_needless(self):
        for m, rules in rules_of_all_sizes():
            found = self.told(needless_rules, m=m, rules=rules)
            self.assertTrue(is_equal(found, oracle.needless(m, rules)), (m, rules, found))

    def test_needless_edges(self):
        self.assertEqual(needless_rules(6, ()), ())
        self.assertEqual(needless_rules(1, (((), 0),)), ())
        self.assertEqual(needless_rules(1, (((), 0), ((), 0))), (0, 1))
        self.assertEqual(needless_rules(3, (((0,), 1), ((1,), 2), ((0,), 2))), (2,))

    def test_fewer(self):
        for m, rules in rules_within_the_limit():
            found = self.told(fewer_rules, m=m, rules=rules)
            self.assertTrue(is_plain(found) and oracle.is_some_in_order(found, rules), (rules, found))
            self.assertEqual(oracle.closed_lots(m, found), oracle.closed_lots(m, rules))
            self.assertEqual(oracle.needless(m, found), ())

    def test_fewer_edges(self):
        self.assertEqual(fewer_rules(4, ()), ())
        self.assertEqual(fewer_rules(1, (((), 0),) * 8), (((), 0),))
        rules = (((0,), 1), ((1,), 0), ((1,), 0), ((0,), 1))
        self.assertIn(fewer_rules(2, rules), [rules[:2], rules[1::-1]])


class PlaceTest(Case):
    def test_defined_here(self):
        for name in (
            "are_rules", "closure", "closed_lots", "house_of", "judge_follows", "follows_holds", "say_same",
            "needless_rules", "fewer_rules",
        ):
            self.assertEqual(getattr(module, name).__module__, "bothandall.rules")
