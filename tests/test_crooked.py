from itertools import combinations, product
from random import Random

from bothandall import crooked as module
from bothandall.crooked import cut_of, is_cut, is_mend, judge_rules, mend_of, rules_hold
from bothandall.errors import BadNumber, BadRules
from tests import oracle, oracle_things
from tests.anything import any_values, is_plain, near
from tests.checking import Case, spread
from tests.samples import RULES, random_rules, rules_of_all_sizes
from tests.test_rules import wrong_rules
from tests.wrong import wrong_numbers

TWOFOLD = (((0, 1), 2), ((0, 2), 1), ((1, 2), 0))
FOURFOLD = tuple(((one, other), more) for one, other, more in [(0, 1, 2), (1, 2, 3), (2, 3, 0), (0, 3, 1), (0, 2, 1), (1, 3, 2)])
DEEP = (((0, 1, 2), 3), ((0, 1, 3), 2), ((0, 2, 3), 1), ((1, 2, 3), 0))


def some_rules():
    chance = Random(12)
    found = [
        (3, ()), (3, (((0, 1), 2),)), (3, TWOFOLD), (3, RULES), (4, FOURFOLD), (4, DEEP), (1, ()), (1, (((), 0),)),
        (4, (((0,), 1), ((1,), 2), ((2,), 3), ((3,), 0))), (4, TWOFOLD + (((), 0),)), (4, TWOFOLD + (((3,), 0),)),
        (4, (((0, 1), 2), ((0, 1), 3))), (4, (((0, 1), 2), ((2, 3), 0), ((2, 3), 1))), (4, (((0, 1), 2),) * 4), (2, ()),
    ]
    for m in range(1, 5):
        for many in range(7):
            for _ in range(8):
                found.append((m, random_rules(m, many, chance)))
    # Rules with two ifs and more make houses crooked, and it takes several changes to mend them.
    wide = [(lot, fact) for lot in oracle.lots_of_facts(4) if len(lot) > 1 for fact in range(4) if fact not in lot]
    found += [(4, tuple(chance.sample(wide, many))) for many in (2, 3, 4, 5, 6) for _ in range(8)]
    return found


SOME = some_rules()


def without(rules, positions):
    return tuple(rule for at, rule in enumerate(rules) if at not in positions)


class JudgeRulesTest(Case):
    def test_judged_rightly(self):
        kinds = set()
        for m, rules in SOME + [(m, rules) for m, rules in rules_of_all_sizes() if m < 6]:
            found = self.told(judge_rules, m=m, rules=rules)
            self.assertTrue(is_plain(found))
            self.assertTrue(oracle_things.rules_certificate(m, rules, found), (m, rules, found))
            self.assertIs(self.told(rules_hold, m=m, rules=rules, thing=found), True)
            right = oracle_things.is_straight_house_of(m, rules)
            self.assertIs(rules_hold(m, rules, ("straight",)), right)
            kinds.add((found[0], m))
        self.assertTrue({("straight", 1), ("straight", 4), ("lots", 3), ("lots", 4)} <= kinds)

    def test_at_most_one_if(self):
        chance = Random(4)
        for m in range(1, 5):
            for _ in range(30):
                bonds = oracle_things.bonds(m) + [((), fact) for fact in range(m)]
                rules = tuple(chance.choice(bonds) for _ in range(chance.randrange(7)))
                self.assertEqual(judge_rules(m, rules), ("straight",))
                self.assertEqual([cut_of(m, rules), mend_of(m, rules)], [(), ()])

    def test_all_lots(self):
        for m, rules in [(3, (((0, 1), 2),)), (3, TWOFOLD), (3, ()), (3, RULES)] + spread(SOME, 30):
            lots = oracle.lots_of_facts(m)
            for values in spread(list(product(lots, repeat=3)), 500):
                right = oracle_things.are_parting_lots(m, rules, values)
                self.assertIs(rules_hold(m, rules, ("lots", *values)), right, (m, rules, values))

    def test_any_value(self):
        odd = [("lots", (2,), (0,), (1,)), ("lots", (2,), (1,), (0,)), ("lots", (0,), (1,), (2,)), ("lots", (2,), (0,), (True,))]
        odd += [("lots", [2], (0,), (1,)), ("lots", ((2,), (0,), (1,))), ("lots", (2,), (0,)), ("lots", (2,), (0,), (1,), (0, 1))]
        odd += [("lots", (2,), (0,), (9,)), ("lots", (2, 2), (0,), (1,)), ("lots", 2, 0, 1), ("lots", (2,), (0, 1), (1,))]
        for m, rules in [(3, (((0, 1), 2),)), (3, ()), (3, TWOFOLD), (1, ()), (4, FOURFOLD)]:
            found = judge_rules(m, rules)
            for value in [found] + near(found) + odd + any_values():
                right = oracle_things.rules_certificate(m, rules, value)
                self.assertIs(self.told(rules_hold, m=m, rules=rules, thing=value), right, (m, rules, value))

    def test_errors(self):
        wrong = [("m", BadNumber, wrong_numbers(1, 6)), ("rules", BadRules, wrong_rules(3))]
        right = {"m": 3, "rules": RULES}
        for function in (judge_rules, cut_of, mend_of):
            self.refuses_in_order(function, right, wrong)
        for function in (rules_hold, is_cut, is_mend):
            for thing in (("straight",), (0,), (), None):
                self.refuses_in_order(function, {**right, "thing": thing}, wrong)


class CutTest(Case):
    def test_cuts(self):
        sizes = set()
        for m, rules in SOME:
            found = self.told(cut_of, m=m, rules=rules)
            self.assertTrue(is_plain(found))
            self.assertTrue(oracle_things.is_cut(m, rules, found), (m, rules, found))
            self.assertIs(self.told(is_cut, m=m, rules=rules, thing=found), True)
            sizes.add(len(found))
        self.assertTrue({0, 1, 2, 3, 4} <= sizes)

    def test_all_to_leave_out(self):
        self.assertEqual(cut_of(3, TWOFOLD), (0, 1, 2))
        self.assertIs(is_cut(3, TWOFOLD, (0, 1)), False)
        self.assertIs(is_cut(3, TWOFOLD, ()), False)
        self.assertEqual(cut_of(3, ()), ())
        self.assertIs(is_cut(3, (), ()), True)

    def test_all_positions(self):
        for m, rules in SOME:
            for many in range(len(rules) + 1):
                for some in spread(list(combinations(range(len(rules)), many)), 12):
                    self.assertIs(is_cut(m, rules, some), oracle_things.is_cut(m, rules, some), (m, rules, some))

    def test_several_cuts(self):
        # Of two equal rules both have to go; of two that lead round, either one.
        self.assertEqual(cut_of(3, (((0, 1), 2),) * 2), (0, 1))
        rules = (((0, 1), 2), ((0,), 3), ((0, 1), 2))
        for some, right in [((0, 2), True), ((0,), False), ((2,), False), ((0, 1, 2), False), ((2, 0), False)]:
            self.assertIs(is_cut(4, rules, some), right)

    def test_any_value(self):
        odd = [(0,), (True,), (False,), [0], (0, 1), (1, 0), (0, 0), (-1,), (9,), 0, ((0,),), (0, 1, 2), (0, 1, 2, 3)]
        for m, rules in [(3, (((0, 1), 2),)), (3, ()), (3, TWOFOLD), (4, FOURFOLD), (4, (((0, 1), 2),) * 4)]:
            for value in near(cut_of(m, rules)) + odd + any_values():
                right = oracle_things.is_cut(m, rules, value)
                self.assertIs(self.told(is_cut, m=m, rules=rules, thing=value), right, (m, rules, value))


class MendTest(Case):
    def test_mends(self):
        sizes, behind = set(), set()
        for m, rules in SOME:
            found = self.told(mend_of, m=m, rules=rules)
            self.assertTrue(is_plain(found))
            self.assertTrue(oracle_things.is_mend(m, rules, found), (m, rules, found))
            self.assertIs(self.told(is_mend, m=m, rules=rules, thing=found), True)
            sizes.add(len(found))
            behind.add(len(rules) + len(found))
        self.assertEqual(sizes, {0, 1, 2})
        self.assertEqual(max(behind), 8)

    def test_more_than_eight_rules_behind(self):
        # Seven and eight rules, which is somewhat beyond the limits, and two bonds.
        for rules in (DEEP + TWOFOLD, DEEP + FOURFOLD[:4], DEEP + FOURFOLD[2:]):
            found = mend_of(4, rules)
            self.assertGreater(len(rules) + len(found), 8)
            self.assertTrue(oracle_things.is_mend(4, rules, found))
            self.assertIs(is_mend(4, rules, found), True)
            self.assertIs(is_mend(4, rules, found[:-1]), False)

    def test_all_mends_of_three_facts(self):
        some = [bonds for many in range(5) for bonds in combinations(oracle_things.bonds(3), many)]
        for rules in ((((0, 1), 2),), TWOFOLD, RULES, (), (((0, 1), 2), ((1, 2), 0))):
            for bonds in some:
                self.assertIs(is_mend(3, rules, bonds), oracle_things.is_mend(3, rules, bonds), (rules, bonds))

    def test_some_mends_of_four_facts(self):
        chance = Random(6)
        right = 0
        for m, rules in SOME:
            if m == 4:
                many = len(mend_of(m, rules))
                for _ in range(12):
                    bonds = tuple(sorted(chance.sample(oracle_things.bonds(4), many)))
                    found = is_mend(m, rules, bonds)
                    self.assertIs(found, oracle_things.is_mend(m, rules, bonds), (rules, bonds))
                    right += found and many > 0
                for one in oracle_things.bonds(4):
                    more = tuple(sorted(mend_of(m, rules) + (one,)))
                    self.assertIs(is_mend(m, rules, more), False)
        self.assertGreater(right, 20)

    def test_any_value(self):
        odd = [(((0,), 2),), (((1,), 2),), (((2,), 0),), (((0,), 2), ((0,), 2)), (((1,), 2), ((0,), 2)), [((0,), 2)]]
        odd += [(((0,), True),), (((False,), 2),), (((), 2),), (((0, 1), 2),), (([0], 2),), ([(0,), 2],), (((0,), 0),)]
        odd += [(((0,), 3),), (((0,), 2, 1),), ((0,), 2), (((0,), 2), None), (((0,), 1), ((0,), 2)), (((0,), 2), ((1,), 2)), ()]
        for m, rules in [(3, (((0, 1), 2),)), (3, ()), (3, TWOFOLD), (4, DEEP), (1, ())]:
            for value in near(mend_of(m, rules)) + odd + any_values():
                right = oracle_things.is_mend(m, rules, value)
                self.assertIs(self.told(is_mend, m=m, rules=rules, thing=value), right, (m, rules, value))


class PlaceTest(Case):
    def test_defined_here(self):
        for name in ("judge_rules", "rules_hold", "cut_of", "is_cut", "mend_of", "is_mend"):
            self.assertEqual(getattr(module, name).__module__, "bothandall.crooked")
