from itertools import permutations, product
from random import Random

from bothandall import holders as module
from bothandall.ends import ceilings, floors
from bothandall.errors import BadHouse, BadLot, BadNumber, BadRow
from bothandall.holders import holders, holders_now, judge_saying, open_lots, saying_holds, sure_lots
from bothandall.houses import least, pieces
from bothandall.straight import is_straight
from tests import oracle_desks, oracle_rows
from tests.anything import any_values, is_equal, is_plain, near
from tests.checking import Case, spread
from tests.samples import (
    CROOKED, CUBE, FLAT, HOUSES, LEANING, ONE, STRAIGHT, TWO, chain, flat, pairs_house, shared_sets_house, some_rows,
)
from tests.test_houses import wrong_houses, wrong_lots
from tests.wrong import odd_plans, wrong_numbers, wrong_rows


def some_cases():
    found = []
    for seed, house in enumerate([house for house in HOUSES + STRAIGHT + CROOKED if len(house) <= 12]):
        for hands in range(1, 5):
            found += [(house, row) for row in some_rows(house, hands, 2, seed)]
    found += [(house, some_rows(house, 5, 1, 3)[0]) for house in CROOKED[:6] + STRAIGHT[3:6]]
    found += [(shared_sets_house(24, 165), (18, 9, 14)), (flat(24), (3, 7, 1, 20)), (pairs_house(CUBE, chain(3)), (2, 4, 9, 14))]
    return found


CASES = some_cases()


class HoldersTest(Case):
    def test_holders_now(self):
        for house, row in CASES:
            for lot in spread(range(len(house)), 6):
                found = self.told(holders_now, house=house, row=row, lot=lot)
                self.assertTrue(is_equal(found, oracle_desks.holders_now(house, row, lot)))

    def test_holders(self):
        kinds = set()
        for house, row in CASES:
            for lot in spread(range(len(house)), 6):
                found = self.told(holders, house=house, row=row, lot=lot)
                self.assertTrue(is_equal(found, oracle_desks.holders(house, row, lot)), (house, row, lot))
                self.assertLessEqual(holders_now(house, row, lot), found[0])
                if is_straight(house) and lot in pieces(house) + (least(house),):
                    self.assertEqual(found, (holders_now(house, row, lot),) * 2)
                kinds.add((found[0] == found[1], found[0] == holders_now(house, row, lot)))
        self.assertEqual(len(kinds), 4)

    def test_rows_of_six_hands(self):
        self.assertEqual(holders_now(FLAT, (1, 2, 3, 0, 4, 1), 1), 3)
        self.assertEqual(holders_now(FLAT, (1, 2, 3, 0, 4, 1), 0), 6)
        self.assertEqual(holders_now(chain(24), (23, 5, 4, 3, 2, 1), 4), 3)

    def test_errors(self):
        wrong = [("house", BadHouse, wrong_houses()), ("row", BadRow, wrong_rows(FLAT)), ("lot", BadLot, wrong_lots(5))]
        for function in (holders_now, holders):
            self.refuses_in_order(function, {"house": FLAT, "row": (1, 2, 3), "lot": 1}, wrong)
        wrong.append(("k", BadNumber, wrong_numbers(1, 3)))
        right = {"house": FLAT, "row": (1, 2, 3), "lot": 1, "k": 2}
        self.refuses_in_order(judge_saying, right, wrong)
        for thing in (("sure",), ("open", ((1, 2),), ((0, 1),)), None):
            self.refuses_in_order(saying_holds, {**right, "thing": thing}, wrong)
        del wrong[2]
        for function in (sure_lots, open_lots):
            self.refuses_in_order(function, {"house": FLAT, "row": (1, 2, 3), "k": 2}, wrong)

    def test_so_many_hands(self):
        for hands in range(1, 6):
            row = (0,) * hands
            for k in range(-1, 8):
                if 1 <= k <= hands:
                    self.assertEqual(judge_saying(TWO, row, 0, k), ("sure",))
                    self.assertEqual(sure_lots(TWO, row, k), (0,))
                    self.assertEqual(open_lots(TWO, row, k), ())
                else:
                    self.refuses(BadNumber, k, judge_saying, house=TWO, row=row, lot=0, k=k)
                    self.refuses(BadNumber, k, saying_holds, house=TWO, row=row, lot=0, k=k, thing=("sure",))
                    self.refuses(BadNumber, k, sure_lots, house=TWO, row=row, k=k)
                    self.refuses(BadNumber, k, open_lots, house=TWO, row=row, k=k)


class SayingTest(Case):
    def test_judged_rightly(self):
        kinds = set()
        for house, row in CASES:
            for lot in spread(range(len(house)), 5):
                for k in range(1, len(row) + 1):
                    found = self.told(judge_saying, house=house, row=row, lot=lot, k=k)
                    self.assertTrue(is_plain(found))
                    self.assertTrue(oracle_desks.saying_certificate(house, row, lot, k, found), (house, row, lot, k, found))
                    self.assertIs(self.told(saying_holds, house=house, row=row, lot=lot, k=k, thing=found), True)
                    right = oracle_desks.word_of(house, row, lot, k)
                    self.assertEqual(found[0], right)
                    for word in ("sure", "never", "open"):
                        self.assertIs(saying_holds(house, row, lot, k, (word,)), word == right != "open")
                    kinds.add((found[0], is_straight(house)))
        self.assertEqual(len(kinds), 5)
        self.assertNotIn(("open", True), kinds)

    def test_floors_and_ceilings(self):
        many = set()
        for house, row in CASES:
            low, high = floors(house, row), ceilings(house, row)
            for lot in range(len(house)):
                for k in range(1, len(row) + 1):
                    if house[lot][low[len(row) - k]]:
                        self.assertEqual(judge_saying(house, row, lot, k), ("sure",))
                        many.add("sure")
                    if not house[lot][high[len(row) - k]]:
                        self.assertEqual(judge_saying(house, row, lot, k), ("never",))
                        many.add("never")
        self.assertEqual(len(many), 2)

    def test_all_plans_of_one_or_two_meetings(self):
        meetings = list(permutations(range(3), 2))
        plans = [()] + [(one,) for one in meetings] + [((0, 1), (1, 2)), ((0, 1), (0, 1)), ((0, 2), (1, 2))]
        for house, row in ((FLAT, (1, 2, 3)), (LEANING, (1, 2, 3)), (LEANING, (3, 0, 2))):
            for lot, k in product(range(5), range(1, 4)):
                for one, other in spread(list(product(plans, repeat=2)), 40):
                    thing = ("open", one, other)
                    right = oracle_desks.saying_certificate(house, row, lot, k, thing)
                    self.assertIs(saying_holds(house, row, lot, k, thing), right, (house, row, lot, k, thing))

    def test_any_value(self):
        odd = [("open", ((1, 2),), ((0, 1),)), ("open", ((0, 1),), ((1, 2),)), ("open", ((1, 2),), [(0, 1)]), ("open", ((1, 2),))]
        odd += [("open", ((1, 2),), ((0, 1),), ()), ("open", ((True, 2),), ((0, 1),)), ("open", (), ()), ["open", ((1, 2),), ((0, 1),)]]
        odd += [("open", ((2, 1),), ((1, 0),)), ("open", ((1, 2),) * 21, ((0, 1),)), ("sure",), ("never",)]
        odd += [("open", plan, ((0, 1),)) for plan in odd_plans(3)] + [("open", ((1, 2),), plan) for plan in odd_plans(3)]
        odd += [("sure", ()), "sure", ["sure"], ("never", 0), ("open",), ("open", None, None)]
        cases = [(FLAT, (1, 2, 3), 1, 2), (FLAT, (1, 2, 3), 4, 1), (FLAT, (1, 2, 3), 4, 2), (LEANING, (1, 3, 2), 1, 2), (ONE, (0,), 0, 1)]
        for house, row, lot, k in cases:
            found = judge_saying(house, row, lot, k)
            for value in [found] + near(found) + odd + any_values():
                right = oracle_desks.saying_certificate(house, row, lot, k, value)
                found_of = self.told(saying_holds, house=house, row=row, lot=lot, k=k, thing=value)
                self.assertIs(found_of, right, (house, row, lot, k, value))


class LotsTest(Case):
    def test_sure_and_open_lots(self):
        kinds = set()
        for house, row in CASES:
            for k in range(1, len(row) + 1):
                lots = range(len(house))
                words = {lot: oracle_desks.word_of(house, row, lot, k) for lot in lots}
                sure = self.told(sure_lots, house=house, row=row, k=k)
                self.assertTrue(is_equal(sure, tuple(lot for lot in lots if words[lot] == "sure")), (house, row, k))
                found = self.told(open_lots, house=house, row=row, k=k)
                self.assertTrue(is_equal(found, tuple(lot for lot in lots if words[lot] == "open")), (house, row, k))
                kinds.add((len(sure) == len(house), len(found) > 0))
                # The least lot is held by all hands, so it is always sure.
                self.assertIn(least(house), sure)
        self.assertTrue({(True, False), (False, True), (False, False)} <= kinds)

    def test_lines_of_one_hand(self):
        for house in (FLAT, LEANING, chain(12), ONE):
            for x in range(len(house)):
                self.assertEqual(sure_lots(house, (x,), 1), tuple(lot for lot in range(len(house)) if house[lot][x]))
                self.assertEqual(open_lots(house, (x,), 1), ())

    def test_random_rows(self):
        chance = Random(9)
        for _ in range(60):
            house = chance.choice([house for house in CROOKED if len(house) <= 10])
            row = tuple(chance.randrange(len(house)) for _ in range(chance.randint(2, 5)))
            k = chance.randint(1, len(row))
            words = [oracle_desks.word_of(house, row, lot, k) for lot in range(len(house))]
            self.assertEqual(list(sure_lots(house, row, k)), [lot for lot, word in enumerate(words) if word == "sure"])
            self.assertEqual(list(open_lots(house, row, k)), [lot for lot, word in enumerate(words) if word == "open"])
            self.assertTrue(oracle_rows.is_row(house, row))


class PlaceTest(Case):
    def test_defined_here(self):
        for name in ("holders_now", "holders", "judge_saying", "saying_holds", "sure_lots", "open_lots"):
            self.assertEqual(getattr(module, name).__module__, "bothandall.holders")
