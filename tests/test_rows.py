from itertools import product

from bothandall import rows as module
from bothandall.errors import BadHouse, BadMeeting, BadNumber, BadPlan, BadRow
from bothandall.rows import (
    behind, is_at_rest, is_plan, is_row, ledger, line_of, met, resting_plan, strange_pairs,
)
from tests import oracle_rows
from tests.anything import any_values, is_equal, is_plain, near
from tests.checking import Case, spread
from tests.samples import CROOKED, FLAT, HOUSES, LEANING, ONE, SMALL, STRAIGHT, TWO, chain, flat, some_plan, some_rows
from tests.test_houses import wrong_houses
from tests.wrong import WRONG_HANDS, odd_plans, wrong_meetings, wrong_plans, wrong_rows


def rows_of_houses(many):
    """Triples of a house, a row of it and a number to tell them apart."""
    found = []
    for house in HOUSES + STRAIGHT + CROOKED:
        for hands in range(1, 7):
            found += [(house, row, len(found) + at) for at, row in enumerate(some_rows(house, hands, many, len(found)))]
    return found


ROWS = rows_of_houses(3)


class KindsTest(Case):
    def test_is_row(self):
        odd = [(0,) * many for many in range(9)] + [(4,), (5,), (-1,), (0, 5), (0, True), (False,), [0], (0, [0])]
        for house in (FLAT, LEANING, ONE, TWO, chain(24)):
            for value in odd + any_values() + near((0, 1, 2)) + near((23,)):
                found = self.told(is_row, house=house, thing=value)
                self.assertIs(found, oracle_rows.is_row(house, value), (house, value))
        self.refuses_in_order(is_row, {"house": FLAT, "thing": (1, 2)}, [("house", BadHouse, wrong_houses())])
        self.refuses_in_order(is_row, {"house": FLAT, "thing": []}, [("house", BadHouse, wrong_houses())])

    def test_all_short_rows(self):
        for row in product(range(-1, 4), repeat=3):
            self.assertIs(is_row(chain(3), row), oracle_rows.is_row(chain(3), row))

    def test_is_plan(self):
        for hands in range(1, 7):
            plans = [some_plan(hands, many, many) for many in range(25)] + [((hands - 1, 0),), ((0, hands - 1),)]
            for value in plans + odd_plans(hands) + any_values() + near(((0, 1), (1, 0))):
                found = self.told(is_plan, hands=hands, thing=value)
                self.assertIs(found, oracle_rows.is_plan(hands, value), (hands, value))
            self.assertIs(is_plan(hands, ()), True)
            self.assertIs(is_plan(hands, ((0, 1),) * 20), hands > 1)
            self.assertIs(is_plan(hands, ((0, 1),) * 21), False)
        self.refuses_in_order(is_plan, {"hands": 2, "thing": ()}, [("hands", BadNumber, WRONG_HANDS)])
        self.refuses_in_order(is_plan, {"hands": 2, "thing": None}, [("hands", BadNumber, WRONG_HANDS)])

    def test_all_pairs(self):
        for hands in range(1, 7):
            for meeting in product(range(-1, 8), repeat=2):
                self.assertIs(is_plan(hands, (meeting,)), oracle_rows.is_plan(hands, (meeting,)))


class MeetingsTest(Case):
    def test_met(self):
        for house, row, seed in ROWS:
            for meeting in some_plan(len(row), 3, seed):
                found = self.told(met, house=house, row=row, meeting=meeting)
                self.assertTrue(is_equal(found, oracle_rows.met(house, row, meeting)), (house, row, meeting))

    def test_all_meetings_of_a_row(self):
        for house in (FLAT, LEANING, chain(3)):
            for row in product(range(len(house)), repeat=3):
                for i, j in product(range(3), repeat=2):
                    if i != j:
                        self.assertEqual(met(house, row, (i, j)), oracle_rows.met(house, row, (i, j)))
                        x, y = row[i], row[j]
                        if house[x][y] or house[y][x]:
                            self.assertEqual(sorted(met(house, row, (i, j))), sorted(row))

    def test_behind_and_ledger(self):
        for house, row, seed in ROWS:
            plan = some_plan(len(row), (0, 1, 5, 20)[seed % 4], seed)
            found = self.told(behind, house=house, row=row, plan=plan)
            self.assertTrue(is_equal(found, oracle_rows.behind(house, row, plan)))
            numbers = self.told(ledger, house=house, row=row, plan=plan)
            self.assertTrue(is_equal(numbers, oracle_rows.ledger(house, row, plan)))
            self.assertEqual(list(numbers), sorted(numbers, reverse=True))
            for at, (i, j) in enumerate(plan):
                strange = oracle_rows.strange_pairs(house, oracle_rows.behind(house, row, plan[:at]))
                if (min(i, j), max(i, j)) in strange:
                    self.assertLess(numbers[at + 1], numbers[at])

    def test_no_meetings(self):
        for house in (ONE, FLAT, chain(24)):
            for hands in range(1, 7):
                row = tuple(range(hands)) if len(house) >= hands else (0,) * hands
                self.assertTrue(is_equal(behind(house, row, ()), row))
                self.assertEqual(len(ledger(house, row, ())), 1)
        self.assertEqual(behind(ONE, (0,) * 6, ((0, 5),) * 20), (0,) * 6)
        self.assertEqual(ledger(flat(24), (1, 2, 3, 4, 5, 6), ()), (15,))
        self.assertEqual(ledger(FLAT, (1, 2, 3), ((0, 1),) * 20), (3,) + (0,) * 20)

    def test_errors(self):
        wrong = [("house", BadHouse, wrong_houses()), ("row", BadRow, wrong_rows(FLAT))]
        self.refuses_in_order(met, {"house": FLAT, "row": (1, 2, 3), "meeting": (0, 1)}, wrong + [
            ("meeting", BadMeeting, wrong_meetings(3)),
        ])
        for function in (behind, ledger):
            self.refuses_in_order(function, {"house": FLAT, "row": (1, 2, 3), "plan": ((0, 1), (1, 0))}, wrong + [
                ("plan", BadPlan, wrong_plans(3)),
            ])

    def test_meetings_of_so_many_hands(self):
        for hands in range(1, 7):
            row = (0,) * hands
            for meeting in product(range(-1, 8), repeat=2):
                if oracle_rows.is_meeting(hands, meeting):
                    self.assertEqual(met(TWO, row, meeting), row)
                else:
                    self.refuses(BadMeeting, meeting, met, house=TWO, row=row, meeting=meeting)
                    self.refuses(BadPlan, (meeting,), behind, house=TWO, row=row, plan=(meeting,))
                    self.refuses(BadPlan, (meeting,), ledger, house=TWO, row=row, plan=(meeting,))


class RestTest(Case):
    def test_strange_pairs(self):
        kinds = set()
        for house, row, _ in ROWS:
            right = oracle_rows.strange_pairs(house, row)
            self.assertTrue(is_equal(self.told(strange_pairs, house=house, row=row), right))
            self.assertIs(self.told(is_at_rest, house=house, row=row), right == ())
            kinds.add((len(row), right == ()))
        self.assertTrue({(6, True), (6, False), (2, True), (2, False), (1, True)} <= kinds)

    def test_lines(self):
        for house, row, _ in ROWS:
            found = self.told(line_of, house=house, row=row)
            self.assertTrue(is_equal(found, oracle_rows.line_of(house, row)))

    def test_all_rows_of_small_houses(self):
        for house in SMALL[:8]:
            for row in spread(list(product(range(len(house)), repeat=3)), 400):
                self.assertEqual(line_of(house, row), oracle_rows.line_of(house, row))
                self.assertEqual(strange_pairs(house, row), oracle_rows.strange_pairs(house, row))

    def test_a_lot_held_twice(self):
        self.assertEqual(line_of(LEANING, (4, 1, 4, 0, 2, 1)), (0, 1, 1, 2, 4, 4))
        self.assertEqual(line_of(FLAT, (3, 3, 3)), (3, 3, 3))
        self.assertEqual(strange_pairs(FLAT, (3, 1, 3, 1)), ((0, 1), (0, 3), (1, 2), (2, 3)))
        self.assertIs(line_of(FLAT, (3, 1, 3)), None)
        down = tuple(zip(*chain(24)))
        self.assertEqual(line_of(down, (0, 23, 5, 5, 7)), (23, 7, 5, 5, 0))

    def test_resting_plans(self):
        for house, row, _ in ROWS:
            found = self.told(resting_plan, house=house, row=row)
            self.assertTrue(is_plain(found))
            self.assertTrue(oracle_rows.is_resting_plan(house, row, found), (house, row, found))
            self.assertLessEqual(len(found), len(row) * (len(row) - 1) // 2)
            self.assertEqual(found == (), oracle_rows.strange_pairs(house, row) == ())
            self.assertEqual(ledger(house, row, found)[-1], 0)

    def test_errors(self):
        for function in (strange_pairs, is_at_rest, line_of, resting_plan):
            self.refuses_in_order(function, {"house": FLAT, "row": (1, 2, 3)}, [
                ("house", BadHouse, wrong_houses()), ("row", BadRow, wrong_rows(FLAT)),
            ])
            for house in (ONE, TWO, chain(24)):
                for row in ((len(house),), (0, -1), (0,) * 7, ()):
                    self.refuses(BadRow, row, function, house=house, row=row)


class PlaceTest(Case):
    def test_defined_here(self):
        for name in (
            "is_row", "is_plan", "met", "behind", "ledger", "strange_pairs", "is_at_rest", "line_of", "resting_plan",
        ):
            self.assertEqual(getattr(module, name).__module__, "bothandall.rows")
